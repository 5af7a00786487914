/- Layer 18: the document's queue: dropping. Printed by bin/genOrdR.py. -/
import Derived.Test.YtmikjbhhnndncaaOrdZ
namespace Go.Proofs.Ytmikjbhhnndncaa
open Go.RowKit
set_option linter.unusedVariables false
set_option maxRecDepth 100000
set_option maxHeartbeats 4000000
section
variable {w0 w w' : World} {S0 S : Nat → Prop} {N L : List Res} {r : Nat} {s s' : OSt}
theorem rDrop_c (h : RQR r s w S) (hs : s.ok) {id f : Int} (hP : DropP s id f s') :
    Calls Try.prog 16 #[.pointer (some ⟨r, 0, none⟩), .int .i64 id] w fun e w' => e = .returned (.int .i64 f) ∧ ∃ S', RQR r s' w' S' ∧ Did S S' w w' := by
  obtain ⟨iK, hiK, hzK, hsK, hbK⟩ := info3o Try.infoWant
  have hlen := hs.len
  obtain ⟨z, hz⟩ := findW_ex s.l id
  obtain ⟨A, c, hr⟩ := h
  have s0 : St w S w (RQL r A c s) := St.start hr
  have FI := Lib.hid (rfind_c w (s0.blk 0 rfl).three.1 (s0.lis 1 rfl) (by omega) hz)
  have S0' := Lib.hid s0
  clear s0 hr
  rcases hP with ⟨hno, rfl, rfl⟩ | ⟨i, x, hx, hid, rfl, rfl⟩
  · obtain rfl : z = -1 := by
      rcases hz with ⟨h, _⟩ | ⟨i, y, _, h1, h2, _⟩
      · exact h
      · exact absurd h2 (hno y (List.mem_of_getElem? h1))
    clear hno hs hz
    go_enter Try.func16, Try.ntmps16
    go_wp2_with fail
    refine FI.out.mono ?_
    rintro e w1 ⟨rfl, rfl⟩
    go_wp2_with fail
    go_ret
    exact ⟨rfl, S0'.out.fin fun S' h => ⟨A, c, h⟩⟩
  · obtain rfl : z = (i : Int) := by
      rcases hz with ⟨_, h⟩ | ⟨i', y, h, h1, h2, _⟩
      · exact absurd hid (h x (List.mem_of_getElem? hx))
      · rw [h, hs.one i' i y x h1 hx (by rw [h2, hid])]
    have hin := (List.getElem?_eq_some_iff.1 hx).1
    have heq : s.l.eraseIdx i = s.l.take i ++ s.l.drop (i + 1) := List.eraseIdx_eq_take_drop_succ _ _
    show Calls _ _ _ _ fun e w' => e = .returned (.int .i64 0) ∧ ∃ S', (∃ A c, Star [BlkR r 29 #[.slice A (s.l.eraseIdx i).length c, .int .i64 s.head, .bool (!s.up)], LisR 32 3 (.slice A (s.l.eraseIdx i).length c) (s.l.eraseIdx i).length (ovs (s.l.eraseIdx i))] w' S') ∧ Did S S' w w'
    have hlt : (s.l.eraseIdx i).length = i + (s.l.length - (i + 1)) := by
      rw [heq, List.length_append, List.length_take, List.length_drop]; omega
    have HLT := Lib.hid hlt
    have HEQ := Lib.hid heq
    obtain ⟨hd, hhd⟩ : ∃ hd, hd = s.head := ⟨_, rfl⟩
    obtain ⟨dn, hdn⟩ : ∃ dn, dn = (!s.up) := ⟨_, rfl⟩
    have S0'' := Lib.hid (show St w S w [BlkR r 29 #[.slice A s.l.length c, .int .i64 hd, .bool dn], LisR 32 3 (.slice A s.l.length c) s.l.length (ovs s.l)] by rw [hhd, hdn]; exact S0'.out)
    rw [← hhd, ← hdn]
    generalize s.l.eraseIdx i = l' at *
    clear hs hz hid S0' hhd hdn
    generalize s.l = l at *
    obtain ⟨n, hn⟩ : ∃ n, l.length = n := ⟨_, rfl⟩
    have S1 := Lib.hid (show St w S w [BlkR r 29 #[.slice A n c, .int .i64 hd, .bool dn], LisR 32 3 (.slice A n c) n (ovs l)] by rw [← hn]; exact S0''.out)
    rw [hn] at hin hlen
    have HN := Lib.hid hn
    have q0 := (S1.out.blk 0 rfl).three.1
    have ls := S1.out.lis 1 rfl
    have hcap : n ≤ c ∧ c ≤ maxLen := by
      obtain ⟨A', c', hv, h1, h2⟩ := ls.shape
      injection hv with _ _ hv
      subst hv; exact ⟨h1, h2⟩
    unfold maxLen at hcap
    obtain ⟨b, off, rfl, -⟩ := ls.reads.2.resolve_left (by omega)
    have zE := S1.out.drew.lis_new 32 3 0 #[] rfl (by unfold maxLen; omega)
    have q1 := ((S1.out.lis_new 32 3 0 #[] rfl (by unfold maxLen; omega)).blk 0 rfl).three.1
    have RE := Lib.hid (((zE.lis 1 rfl).upto (show i ≤ n by omega)).reads)
    have HT := Lib.hid (ovs_take l i)
    have ZE := Lib.hid zE
    have hw1 : IntKind.i64.wrap ((i : Int) + 1) = (i : Int) + 1 := IntWalk.i64_in _ ⟨by omega, by omega⟩
    have v1 : i ≤ c := by omega
    have v2 : (i : Int) ≤ (c : Int) := by omega
    have v3 : i + 1 ≤ n := by omega
    have v4 : (i : Int) + 1 ≤ (n : Int) := by omega
    have v5 : (0 : Int) ≤ (i : Int) + 1 := by omega
    have z1 : decide ((i : Int) < 0) = false := decide_eq_false (by omega)
    clear hx heq hlt hn ls zE S0''
    rw [HT.out] at RE
    have hm : ovs (l.take i) ++ ovs (l.drop (i + 1)) = ovs l' := by rw [HEQ.out, ovs_app]
    go_enter Try.func16, Try.ntmps16
    go_wp2_with fail
    refine FI.out.mono ?_
    rintro e w1 ⟨rfl, rfl⟩
    clear FI
    by_cases hca : c = i + 1
    · subst hca
      obtain rfl : n = i + 1 := by omega
      have t9 : (i : Int) ≤ (i : Int) + 1 := by omega
      rw [List.drop_eq_nil_of_le (by have := HN.out; omega)] at hm
      have HM := Lib.hid hm
      have HL := Lib.hid (show i = l'.length by have := HLT.out; have := HN.out; omega)
      clear hm
      go_wp2_with fail
      go_region_law (first
        | (refine step_lis (by rfl) _ _ _ (by rfl) 32 iK (.agg #[.int .i64 0, .int .u64 0, .int .i64 0]) 3 24 Try.underlying27 hiK hzK hsK hbK (by rfl) (by omega) (.slice (some ⟨w.heap.size, 0, none⟩) 0 0) 0 [] (by rfl) (ZE.out.lis 2 rfl) (some ⟨b, off, none⟩) i (i + 1) (ovs (l.take i)) (by rfl) RE.out (ovs_one _) (by unfold maxLen; omega) (by omega) ?_; intro B6 c6 w6 hl hg hat; have t6 := ZE.out.lis_put 2 rfl hl hg hat; simp only [Nat.zero_add, List.nil_append] at t6 ⊢; have q6 := (t6.blk 0 rfl).three.1;  have PE := Lib.hid t6; clear hl hg hat t6)
        | (refine step_lis (by rfl) _ _ _ (by rfl) 32 iK (.agg #[.int .i64 0, .int .u64 0, .int .i64 0]) 3 24 Try.underlying27 hiK hzK hsK hbK (by rfl) (by omega) (.slice B6 i c6) i (ovs (l.take i)) (by rfl) (PE.out.lis 2 rfl) (some ⟨b, off, none⟩) 0 0 (ovs []) (by rfl) ⟨rfl, Or.inl rfl⟩ (ovs_one _) (by unfold maxLen; omega) (by omega) ?_; intro B7 c7 w7 hl hg hat; have t7 := PE.out.lis_put 2 rfl hl hg hat; rw [HM.out] at t7; have q7 := (t7.blk 0 rfl).three.1; have f7 := (t7.blk 0 rfl).frozen 0; have T8 := Lib.hid ((t7.drop 1 (by simp)).set_ 0 rfl 0 (.slice B7 i c7)); clear hl hg hat t7))
      all_goals
        go_wp2_with fail
        go_ret
        refine ⟨rfl, ?_⟩
        have T9 := T8.out
        rw [HL.out] at T9 ⊢
        exact T9.fin (R := fun W S => ∃ A c, Star [BlkR r 29 #[.slice A l'.length c, .int .i64 hd, .bool dn], LisR 32 3 (.slice A l'.length c) l'.length (ovs l')] W S) fun S' h => ⟨B7, c7, h⟩
    · have HM := Lib.hid hm
      have HL := Lib.hid (show i + (n - (i + 1)) = l'.length by have := HLT.out; have := HN.out; omega)
      clear hm
      go_wp2_with fail
      go_region_law (first
        | (refine step_lis (by rfl) _ _ _ (by rfl) 32 iK (.agg #[.int .i64 0, .int .u64 0, .int .i64 0]) 3 24 Try.underlying27 hiK hzK hsK hbK (by rfl) (by omega) (.slice (some ⟨w.heap.size, 0, none⟩) 0 0) 0 [] (by rfl) (ZE.out.lis 2 rfl) (some ⟨b, off, none⟩) i c (ovs (l.take i)) (by rfl) RE.out (ovs_one _) (by unfold maxLen; omega) (by omega) ?_; intro B6 c6 w6 hl hg hat; have t6 := ZE.out.lis_put 2 rfl hl hg hat; simp only [Nat.zero_add, List.nil_append] at t6 ⊢; have q6 := (t6.blk 0 rfl).three.1; have R6 := Lib.hid (((t6.lis 1 rfl).cut (show i + 1 ≤ n by omega)).reads); rw [if_neg hca, ovs_drop] at R6; simp only [Option.map_some, Go.WideShapes.add_plain] at R6; have PE := Lib.hid t6; clear hl hg hat t6)
        | (refine step_lis (by rfl) _ _ _ (by rfl) 32 iK (.agg #[.int .i64 0, .int .u64 0, .int .i64 0]) 3 24 Try.underlying27 hiK hzK hsK hbK (by rfl) (by omega) (.slice B6 i c6) i (ovs (l.take i)) (by rfl) (PE.out.lis 2 rfl) (some ⟨b, off + (i + 1) * 3, none⟩) (n - (i + 1)) (c - (i + 1)) (ovs (l.drop (i + 1))) (by rfl) R6.out (ovs_one _) (by unfold maxLen; omega) (by omega) ?_; intro B7 c7 w7 hl hg hat; have t7 := PE.out.lis_put 2 rfl hl hg hat; rw [HM.out] at t7; have q7 := (t7.blk 0 rfl).three.1; have f7 := (t7.blk 0 rfl).frozen 0; have T8 := Lib.hid ((t7.drop 1 (by simp)).set_ 0 rfl 0 (.slice B7 (i + (n - (i + 1))) c7)); clear hl hg hat t7))
      all_goals
        go_wp2_with fail
        go_ret
        refine ⟨rfl, ?_⟩
        have T9 := T8.out
        rw [HL.out] at T9 ⊢
        exact T9.fin (R := fun W S => ∃ A c, Star [BlkR r 29 #[.slice A l'.length c, .int .i64 hd, .bool dn], LisR 32 3 (.slice A l'.length c) l'.length (ovs l')] W S) fun S' h => ⟨B7, c7, h⟩
theorem rDrop_o (H : St w0 S0 w L) (i : Nat) (hi : L[i]? = some (RQR r s)) (hs : s.ok) {id f : Int} (hP : DropP s id f s') :
    Calls Try.prog 16 #[.pointer (some ⟨r, 0, none⟩), .int .i64 id] w fun e w' => e = .returned (.int .i64 f) ∧ St w0 S0 w' (L.set i (RQR r s')) :=
  St.call (fun w S h => rDrop_c h hs hP) (RQR.ok _ _) H i hi
end
end Go.Proofs.Ytmikjbhhnndncaa
