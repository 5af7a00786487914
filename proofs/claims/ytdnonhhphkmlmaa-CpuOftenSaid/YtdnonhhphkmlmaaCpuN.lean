/- Layer 17: a processor: Tick. -/
import Derived.Test.YtdnonhhphkmlmaaCpuL
namespace Go.Proofs.Ytdnonhhphkmlmaa
open Go.RowKit
set_option linter.unusedVariables false
set_option maxRecDepth 100000
set_option maxHeartbeats 1000000
/-- What a tick does. -/
def TickP (n m : Nat) (T : Nat → CTk) (V : Nat → Sv) (now : Int) (s : QS) (who : Int) (ld lc : List Nat) (T' : Nat → CTk) (V' : Nat → Sv) (s' : QS) : Prop :=
  (∃ k, k < m ∧ canS (V k) now ∧ (∀ j, j < k → ¬ canS (V j) now) ∧ who = 100 + (k : Int) ∧ ld = [] ∧ lc = [] ∧ T' = T ∧ s' = s ∧ V' = updK (seenV V now (k + 1)) k (serveS (seenV V now (k + 1) k) now)) ∨
  ((∀ j, j < m → ¬ canS (V j) now) ∧ V' = seenV V now m ∧
    ((∃ x t, s.all = x :: t ∧ x.1 < n ∧ (T x.1).there = true ∧ who = (x.1 : Int) ∧ T' = updK T x.1 (runT (T x.1)) ∧ s' = (if overT (T x.1) = true then s.go x.1 else s) ∧ ld = doneL (T x.1) x.1 ∧ lc = cutL (T x.1) x.1) ∨
     (s.all = [] ∧ who = -1 ∧ ld = [] ∧ lc = [] ∧ T' = T ∧ s' = s)))
def TickQ (w0 : World) (S0 : Nat → Prop) (X : List Res) (p : Pl) (T : Nat → CTk) (V : Nat → Sv) (now : Int) (s : QS) (e : Ending) (w' : World) : Prop :=
  ∃ who ld lc T' V' s', TickP p.n p.m T V now s who ld lc T' V' s' ∧ StepQ w0 S0 X p T' V' (now + 1) s' who ld lc (misL T' (now + 1) p.n) e w'
/-- The queue has just the tasks whose jobs are there. -/
def Linked (n : Nat) (T : Nat → CTk) (s : QS) : Prop := ∀ j pr, s.pr j = some pr → j < n ∧ (T j).there = true ∧ 0 ≤ (T j).ran ∧ (T j).ran < 9223372036854775807
theorem notBack_len (now : Int) (xs : List Int) : (notBack now xs).length ≤ xs.length := notBack_le now xs
theorem SvOK.seen {now : Int} {v : Sv} (h : SvOK now v) : SvOK now (seenS v now) :=
  ⟨h.s, by have := notBack_len now v.xs; have := h.x; unfold seenS; dsimp only; omega, Int.le_refl _, h.w0, h.w1⟩
section
variable {w0 w : World} {S0 : Nat → Prop} {X : List Res} {p : Pl} {T T' : Nat → CTk} {V V' : Nat → Sv} {now id dem : Int} {s s' : QS}
theorem cTick_c (H : St w0 S0 w (CpuL p T V now s ++ X)) (hn : p.n ≤ 100) (hm : p.m ≤ 100) (n0 : 0 ≤ now) (n1 : now + 1 < 4611686018427387904) (hv : ∀ j, j < p.m → SvOK now (V j)) {q : Nat} (hs : s.ok q) (hl : Linked p.n T s) :
    Calls Try.prog 17 #[.pointer (some ⟨p.c, 0, none⟩)] w (TickQ w0 S0 X p T V now s) := by
  have sb := H.box 39 #[.int .i64 0, .slice none 0 0, .slice none 0 0, .slice none 0 0]
  obtain ⟨r, hr⟩ : ∃ r, w.heap.size = r := ⟨_, rfl⟩
  rw [hr, List.append_assoc] at sb
  have WC := Lib.hid (cWho_c sb hv hm n0 (by omega) hs)
  have KEY := Lib.hid (fun (W : World) (a : Int) (V2 : Nat → Sv) (hw : WhoP p.m V now s a V2) (K : St w0 S0 W (CpuL p T V2 now s ++ (X ++ [BlkR r 39 #[.int .i64 0, .slice none 0 0, .slice none 0 0, .slice none 0 0]]))) => show ∃ ld lc T' V' s', TickP p.n p.m T V now s a ld lc T' V' s' ∧ Calls Try.prog 30 #[.pointer (some ⟨p.c, 0, none⟩), .int .i64 a] W (StepQ w0 S0 (X ++ [BlkR r 39 #[.int .i64 0, .slice none 0 0, .slice none 0 0, .slice none 0 0]]) p T' V' (now + 1) s' a ld lc (misL T' (now + 1) p.n)) from by
    rcases hw with ⟨k, hk, hc, hno, rfl, rfl⟩ | ⟨hno, rfl, ⟨x, t, hall, rfl⟩ | ⟨hall, rfl⟩⟩
    · have hsv : SvOK now (seenV V now (k + 1) k) := by unfold seenV; rw [if_pos ⟨Nat.lt_succ_self k, hc.1⟩]; exact (hv k hk).seen
      have hw2 : 0 < (seenV V now (k + 1) k).work := by unfold seenV; rw [if_pos ⟨Nat.lt_succ_self k, hc.1⟩]; exact hc.1
      exact ⟨[], [], T, _, s, Or.inl ⟨k, hk, hc, hno, rfl, rfl, rfl, rfl, rfl, rfl⟩, cStep_serve K hn n0 n1 hk hm hsv hw2 rfl rfl⟩
    · have hp : s.pr x.1 = some x.2 := hs.all_mem.1 (by rw [hall]; exact List.mem_cons_self)
      obtain ⟨l1, l2, l3, l4⟩ := hl _ _ hp
      have hb := (hs.bd _ _ hp).1
      have hG : GoP s (x.1 : Int) 0 (s.go x.1) := Or.inr ⟨⟨by omega, by rw [Int.toNat_natCast, hp]; rfl⟩, rfl, by rw [Int.toNat_natCast]⟩
      exact ⟨_, _, _, _, _, Or.inr ⟨hno, rfl, Or.inl ⟨x, t, hall, l1, l2, rfl, rfl, rfl, rfl, rfl⟩⟩, cStep_run K hn n0 n1 l1 l2 l3 l4 hs hG rfl rfl rfl rfl rfl⟩
    · exact ⟨[], [], T, _, s, Or.inr ⟨hno, rfl, Or.inr ⟨hall, rfl, rfl, rfl, rfl, rfl⟩⟩, cStep_idle K hn n0 n1 rfl⟩)
  clear H hv hs hl sb
  go_enter Try.func17, Try.ntmps17
  go_wp2_with fail
  refine WC.out.mono ?_
  rintro e w2 ⟨a, V2, rfl, hw, s2⟩
  obtain ⟨ld, lc, T', V', s', hTP, hSC⟩ := KEY.out _ _ _ hw s2
  have TP := Lib.hid hTP
  have SC := Lib.hid hSC
  clear WC s2 hTP hSC KEY hw hr
  go_wp2_with fail
  refine SC.out.mono ?_
  rintro e w3 ⟨D, cd, C, cc, M, cm, rfl, s3⟩
  obtain ⟨lm, hlm⟩ : ∃ lm, misL T' (now + 1) p.n = lm := ⟨_, rfl⟩
  have HLM := Lib.hid hlm
  rw [hlm] at s3 ⊢
  have s4 : St w0 S0 w3 ([BlkR r 39 #[.int .i64 0, .slice none 0 0, .slice none 0 0, .slice none 0 0], LisR 3 1 (.slice D ld.length cd) ld.length (ivs ld), LisR 3 1 (.slice C lc.length cc) lc.length (ivs lc), LisR 3 1 (.slice M lm.length cm) lm.length (ivs lm)] ++ (CpuL p T' V' (now + 1) s' ++ X)) := by
    have k := s3.comm
    rw [← List.append_assoc (CpuL p T' V' (now + 1) s') X, List.append_assoc (CpuL p T' V' (now + 1) s' ++ X)] at k
    exact k.comm
  have S4 := Lib.hid s4
  obtain ⟨h0, h1, h2, h3⟩ := (s4.blk 0 rfl).four4
  have f0 := (s4.blk 0 rfl).frozen 0
  have f1 := (s4.blk 0 rfl).frozen 1
  have f2 := (s4.blk 0 rfl).frozen 2
  have f3 := (s4.blk 0 rfl).frozen 3
  have sc := (((s4.set_ 0 rfl 0 (.int .i64 a)).set_ 0 rfl 1 (.slice D ld.length cd)).set_ 0 rfl 2 (.slice C lc.length cc)).set_ 0 rfl 3 (.slice M lm.length cm)
  obtain ⟨y0, y1, y2, y3⟩ := (sc.blk 0 rfl).four4
  have SD := Lib.hid (sc.drop 0 (by simp))
  have FIN := Lib.hid (show TickQ w0 S0 X p T V now s (.returned (.tuple #[.agg #[.int .i64 a, .slice D ld.length cd, .slice C lc.length cc, .slice M lm.length cm], .int .i64 0])) _ from ⟨a, ld, lc, T', V', s', TP.out, D, cd, C, cc, M, cm, by rw [hlm], by rw [hlm]; exact SD.out⟩)
  clear sc s3 s4 S4 SC hlm SD TP
  go_wp2_with fail
  refine bodyPost_ret (v := .tuple #[.agg #[.int .i64 a, .slice D ld.length cd, .slice C lc.length cc, .slice M lm.length cm], .int .i64 0]) ?_ rfl FIN.out
  clear f0 f1 f2 f3 h0 h1 h2 h3 FIN
  generalize (((w3.setCell ⟨r, 0, none⟩ (.int .i64 a)).setCell ⟨r, 1, none⟩ (.slice D ld.length cd)).setCell ⟨r, 2, none⟩ (.slice C lc.length cc)).setCell ⟨r, 3, none⟩ (.slice M lm.length cm) = wz at *
  simp [results, Try.results17, go_sem, y0, y1, y2, y3]
end
end Go.Proofs.Ytdnonhhphkmlmaa
