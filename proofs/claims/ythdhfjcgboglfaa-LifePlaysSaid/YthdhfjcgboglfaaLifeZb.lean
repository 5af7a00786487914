/- Layer 19: the document's own book: out. Printed by bin/genLifeRef.py. -/
import Derived.Test.YthdhfjcgboglfaaLifeZa
import Derived.Deep.DeepCutAuto
import Derived.Deep.CutBlock
namespace Go.Proofs.Ythdhfjcgboglfaa
open Go.RowKit
set_option linter.unusedVariables false
set_option maxRecDepth 100000
set_option maxHeartbeats 4000000
theorem YthdhfjcgboglfaaiT9 : (Try.prog.info? 45).map (fun i => (i.zero, i.size, i.bytes)) = some (some (.agg #[.int .i64 0, .int .u64 0]), 2, 16) := by kernel_rfl
def CanT (l : List (Int × Int)) (id f : Int) (l' : List (Int × Int)) : Prop := (f = 6 ∧ l' = l ∧ ∀ x, x ∈ l → x.1 ≠ id) ∨ ∃ (i : Nat) (x : Int × Int), f = 0 ∧ l[i]? = some x ∧ x.1 = id ∧ l' = l.take i ++ l.drop (i + 1)
theorem YthdhfjcgboglfaaiF9 : (Try.prog.info? 50).map (fun i => (i.zero, i.size, i.bytes)) = some (some (.agg #[.int .i64 0, .int .i64 0, .int .i64 0]), 3, 24) := by kernel_rfl
/-- What out does. -/
def OutB (r : Nat) (cost now : Int) (m : Nat) (F : List Ft) (id kind why : Int) (l : List (Int × Int)) (w : World) (S : Nat → Prop) (e : Ending) (w' : World) : Prop := ∃ f l' G' d', e = .returned (.int .i64 f) ∧ CanT l id f l' ∧ ∃ S', RBX r cost now (.slice G' (if f = 0 then m + 1 else m) d') (LisR 50 3 (.slice G' (if f = 0 then m + 1 else m) d') (if f = 0 then m + 1 else m) (fvs (if f = 0 then F ++ [⟨id, kind, why⟩] else F))) l' w' S' ∧ Did S S' w w'
section
variable {w0 w w' : World} {S0 S : Nat → Prop} {L : List Res} {r : Nat} {cost now : Int} {FV : Value} {X : Res} {l : List (Int × Int)}
theorem rbout_c {G : Option Addr} {m dG : Nat} {F : List Ft} (h : RBX r cost now (.slice G m dG) (LisR 50 3 (.slice G m dG) m (fvs F)) l w S) (hlen : l.length ≤ 1000) (hmF : F.length = m) (hm9 : m ≤ 100000) (id kind why : Int) :
    Calls Try.prog 30 #[.pointer (some ⟨r, 0, none⟩), .int .i64 id, .int .i64 kind, .int .i64 why] w fun e w' => OutB r cost now m F id kind why l w S e w' := by
  obtain ⟨iF, hiF, hzF, hsF, hbF⟩ := info3w YthdhfjcgboglfaaiF9
  obtain ⟨iK, hiK, hzK, hsK, hbK⟩ := info3w YthdhfjcgboglfaaiT9
  have FI := Lib.hid (rbfind_c h hlen id)
  obtain ⟨A, c, hr⟩ := h
  have s0 := St.start hr
  have S0' := Lib.hid s0
  clear hr s0
  go_enter Try.func30, Try.ntmps30
  go_wp2_with fail
  refine FI.out.mono ?_
  rintro e w1 ⟨⟨z, rfl, hz⟩, rfl⟩
  rcases hz with ⟨rfl, hno⟩ | ⟨i, x, rfl, hx, hid⟩
  · have HNO := Lib.hid hno
    clear hno FI
    go_wp2_with fail
    go_ret
    unfold OutB; exact ⟨6, l, G, dG, rfl, Or.inl ⟨rfl, rfl, HNO.out⟩, S0'.out.fin fun S' h => ⟨A, c, h⟩⟩
  · obtain ⟨l', heq⟩ : ∃ l', l' = l.take i ++ l.drop (i + 1) := ⟨_, rfl⟩
    have hin := (List.getElem?_eq_some_iff.1 hx).1
    have HEQ := Lib.hid heq
    have hlt : l'.length = i + (l.length - (i + 1)) := by
      rw [heq]
      rw [List.length_append, List.length_take, List.length_drop]; omega
    have HLT := Lib.hid hlt
    have HCT := Lib.hid (show CanT l id 0 l' from Or.inr ⟨i, x, rfl, hx, hid, heq⟩)
    obtain ⟨n, hn⟩ : ∃ n, l.length = n := ⟨_, rfl⟩
    have S1 := Lib.hid (show St w1 S w1 [(LisR 50 3 (.slice G m dG) m (fvs F)), BlkR r 33 #[.int .u64 cost, .int .u64 now, .slice A n c, .slice G m dG], LisR 45 2 (.slice A n c) n (tvs l)] by rw [← hn]; exact S0'.out)
    rw [hn] at hin hlen
    have HN := Lib.hid hn
    have q0 := (S1.out.blk 1 rfl).four.2.2.1
    have ls := S1.out.lis 2 rfl
    have hcap : n ≤ c ∧ c ≤ maxLen := by
      obtain ⟨A', c', hv, h1, h2⟩ := ls.shape
      injection hv with _ _ hv
      subst hv; exact ⟨h1, h2⟩
    unfold maxLen at hcap
    obtain ⟨b, off, rfl, -⟩ := ls.reads.2.resolve_left (by omega)
    have zE := S1.out.drew.lis_new 45 2 0 #[] rfl (by unfold maxLen; omega)
    have q1 := ((S1.out.lis_new 45 2 0 #[] rfl (by unfold maxLen; omega)).blk 1 rfl).four.2.2.1
    have RE := Lib.hid (((zE.lis 2 rfl).upto (show i ≤ n by omega)).reads)
    have HT := Lib.hid (tvs_take l i)
    have ZE := Lib.hid zE
    have hw1 : IntKind.i64.wrap ((i : Int) + 1) = (i : Int) + 1 := IntWalk.i64_in _ ⟨by omega, by omega⟩
    have v1 : i ≤ c := by omega
    have v2 : (i : Int) ≤ (c : Int) := by omega
    have v3 : i + 1 ≤ n := by omega
    have v4 : (i : Int) + 1 ≤ (n : Int) := by omega
    have v5 : (0 : Int) ≤ (i : Int) + 1 := by omega
    have z1 : decide ((i : Int) < 0) = false := decide_eq_false (by omega)
    clear hx hid heq hlt hn ls zE FI S0'
    rw [HT.out] at RE
    have hm : tvs (l.take i) ++ tvs (l.drop (i + 1)) = tvs l' := by rw [HEQ.out, tvs_app]
    go_upto_region 4 with (fail)
    go_cut [] (fun wx => ∃ B7 c7, St w1 S wx [(LisR 50 3 (.slice G m dG) m (fvs F)), BlkR r 33 #[.int .u64 cost, .int .u64 now, .slice B7 l'.length c7, .slice G m dG], LisR 45 2 (.slice B7 l'.length c7) l'.length (tvs l')])
    case first =>
     by_cases hca : c = i + 1
     · subst hca
       obtain rfl : n = i + 1 := by omega
       have t9 : (i : Int) ≤ (i : Int) + 1 := by omega
       rw [List.drop_eq_nil_of_le (by have := HN.out; omega)] at hm
       have HM := Lib.hid hm
       have HL := Lib.hid (show i = l'.length by have := HLT.out; have := HN.out; omega)
       clear hm
       go_wp2_with fail
       go_region_law (first
         | (refine step_lis (by rfl) _ _ _ (by rfl) 45 iK (.agg #[.int .i64 0, .int .u64 0]) 2 16 Try.underlying30 hiK hzK hsK hbK (by rfl) (by omega) (.slice (some ⟨w1.heap.size, 0, none⟩) 0 0) 0 [] (by rfl) (ZE.out.lis 3 rfl) (some ⟨b, off, none⟩) i (i + 1) (tvs (l.take i)) (by rfl) RE.out (tvs_one _) (by unfold maxLen; omega) (by omega) ?_; intro B6 c6 w6 hl hg hat; have t6 := ZE.out.lis_put 3 rfl hl hg hat; simp only [Nat.zero_add, List.nil_append] at t6 ⊢; have q6 := (t6.blk 1 rfl).four.2.2.1;  have PE := Lib.hid t6; clear hl hg hat t6)
         | (refine step_lis (by rfl) _ _ _ (by rfl) 45 iK (.agg #[.int .i64 0, .int .u64 0]) 2 16 Try.underlying30 hiK hzK hsK hbK (by rfl) (by omega) (.slice B6 i c6) i (tvs (l.take i)) (by rfl) (PE.out.lis 3 rfl) (some ⟨b, off, none⟩) 0 0 (tvs []) (by rfl) ⟨rfl, Or.inl rfl⟩ (tvs_one _) (by unfold maxLen; omega) (by omega) ?_; intro B7 c7 w7 hl hg hat; have t7 := PE.out.lis_put 3 rfl hl hg hat; rw [HM.out] at t7; have q7 := (t7.blk 1 rfl).four.2.2.1; have f7 := (t7.blk 1 rfl).frozen 2; have T8 := Lib.hid ((t7.drop 2 (by simp)).set_ 1 rfl 2 (.slice B7 i c7)); clear hl hg hat t7))
       all_goals
         go_wp2_with fail
         go_meet
         refine ⟨B7, c7, ?_⟩
         rw [← HL.out]
         exact T8.out
     · have HM := Lib.hid hm
       have HL := Lib.hid (show i + (n - (i + 1)) = l'.length by have := HLT.out; have := HN.out; omega)
       clear hm
       go_wp2_with fail
       go_region_law (first
         | (refine step_lis (by rfl) _ _ _ (by rfl) 45 iK (.agg #[.int .i64 0, .int .u64 0]) 2 16 Try.underlying30 hiK hzK hsK hbK (by rfl) (by omega) (.slice (some ⟨w1.heap.size, 0, none⟩) 0 0) 0 [] (by rfl) (ZE.out.lis 3 rfl) (some ⟨b, off, none⟩) i c (tvs (l.take i)) (by rfl) RE.out (tvs_one _) (by unfold maxLen; omega) (by omega) ?_; intro B6 c6 w6 hl hg hat; have t6 := ZE.out.lis_put 3 rfl hl hg hat; simp only [Nat.zero_add, List.nil_append] at t6 ⊢; have q6 := (t6.blk 1 rfl).four.2.2.1; have R6 := Lib.hid (((t6.lis 2 rfl).cut (show i + 1 ≤ n by omega)).reads); rw [if_neg hca, tvs_drop] at R6; simp only [Option.map_some, Go.WideShapes.add_plain] at R6; have PE := Lib.hid t6; clear hl hg hat t6)
         | (refine step_lis (by rfl) _ _ _ (by rfl) 45 iK (.agg #[.int .i64 0, .int .u64 0]) 2 16 Try.underlying30 hiK hzK hsK hbK (by rfl) (by omega) (.slice B6 i c6) i (tvs (l.take i)) (by rfl) (PE.out.lis 3 rfl) (some ⟨b, off + (i + 1) * 2, none⟩) (n - (i + 1)) (c - (i + 1)) (tvs (l.drop (i + 1))) (by rfl) R6.out (tvs_one _) (by unfold maxLen; omega) (by omega) ?_; intro B7 c7 w7 hl hg hat; have t7 := PE.out.lis_put 3 rfl hl hg hat; rw [HM.out] at t7; have q7 := (t7.blk 1 rfl).four.2.2.1; have f7 := (t7.blk 1 rfl).frozen 2; have T8 := Lib.hid ((t7.drop 2 (by simp)).set_ 1 rfl 2 (.slice B7 (i + (n - (i + 1))) c7)); clear hl hg hat t7))
       all_goals
         go_wp2_with fail
         go_meet
         refine ⟨B7, c7, ?_⟩
         rw [← HL.out]
         exact T8.out
    case rest =>
    obtain ⟨B7, c7, s8⟩ := hcut
    have SB := Lib.hid (s8.lis_new 50 3 1 #[.int .i64 id, .int .i64 kind, .int .i64 why] rfl (by unfold maxLen; omega))
    have SL := Lib.hid (SB.out.lis 0 rfl)
    have SR := Lib.hid (SB.out.lis 3 rfl).reads
    have p8 := (s8.blk 1 rfl).four.2.2.2
    have p9 := (SB.out.blk 1 rfl).four.2.2.2
    clear s8 q0 q1 S1 ZE RE
    go_wp2_with (at_builtin; refine wpList_lis rfl (.tmp 38) (.tmp 43) 31 rfl 50 iF (.agg #[.int .i64 0, .int .i64 0, .int .i64 0]) 3 24 Try.underlying31 hiF hzF hsF hbF rfl (by decide) _ _ _ rfl SL.out _ 1 1 [.int .i64 id, .int .i64 kind, .int .i64 why] rfl SR.out (by simp [Value.oneCell']) (by unfold maxLen; omega) (by omega) ?_; intro D cD w9 hl hg hat; have t9 := SB.out.lis_put 0 rfl hl hg hat; have r9 := (t9.blk 1 rfl).four.2.2.2; have g9 := (t9.blk 1 rfl).frozen 3; have T9 := Lib.hid ((t9.drop 3 (by simp)).set_ 1 rfl 3 (.slice D (m + 1) cD)); clear hl hg hat t9)
    go_ret
    unfold OutB
    refine ⟨0, l', D, cD, rfl, HCT.out, ?_⟩
    have t9 := T9.out
    rw [if_pos rfl, if_pos rfl, fvs_app]
    exact t9.fin fun S' h => ⟨B7, c7, h⟩
end
end Go.Proofs.Ythdhfjcgboglfaa
