/- Layer 13: a controller in memory; what is held is delivered. -/
import Derived.Test.YtaoioejgealciaaIrqM
import Derived.Test.YtaoioejgealciaaFr
namespace Go.Proofs.Ytaoioejgealciaa
open Go.RowKit
set_option linter.unusedVariables false
set_option maxRecDepth 100000
set_option maxHeartbeats 2000000
def bk (l : Ln) : Array Value := #[.int .u64 l.D, .int .u64 l.E, .int .u64 l.BN, .int .u64 l.BT]
def IG (ls : Nat → Ln) (gb : Nat → Nat) : Nat → Res := fun i => GatR (gb i) (ls i).C (ls i).H (ls i).N (ls i).ws
def IB (ls : Nat → Ln) (bb : Nat → Nat) : Nat → Res := fun i => BlkR (bb i) 75 (bk (ls i))
def IL (c n m : Nat) (now : Int) (ls : Nat → Ln) (gb bb : Nat → Nat) (X : List Res) : List Res :=
  ([ArrR c 58 210 (cv n m now ls gb bb)] ++ (List.range m).map (IG ls gb)) ++ (([] ++ (List.range m).map (IB ls bb)) ++ X)
section
variable {w0 w w' : World} {S0 S : Nat → Prop} {L X : List Res} {c n m i : Nat} {now : Int} {ls : Nat → Ln} {gb bb : Nat → Nat}
theorem il_0 : (IL c n m now ls gb bb X)[0]? = some (ArrR c 58 210 (cv n m now ls gb bb)) := rfl
theorem il_g (hi : i < m) : (IL c n m now ls gb bb X)[1 + i]? = some (IG ls gb i) := by
  unfold IL
  rw [List.getElem?_append_left (by simp; omega)]
  exact fam_at [_] (IG ls gb) hi
theorem il_b (hi : i < m) : (IL c n m now ls gb bb X)[1 + m + i]? = some (IB ls bb i) := by
  unfold IL
  rw [List.getElem?_append_right (by simp; omega)]
  have e : 1 + m + i - ([ArrR c 58 210 (cv n m now ls gb bb)] ++ (List.range m).map (IG ls gb)).length = 0 + i := by simp; omega
  rw [e, List.getElem?_append_left (by simp; omega)]
  exact fam_at [] (IB ls bb) hi
theorem il_x {k : Nat} {R : Res} (hx : X[k]? = some R) : (IL c n m now ls gb bb X)[1 + m + m + k]? = some R := by
  unfold IL
  rw [List.getElem?_append_right (by simp; omega), List.getElem?_append_right (by simp; omega)]
  have e : 1 + m + m + k - ([ArrR c 58 210 (cv n m now ls gb bb)] ++ (List.range m).map (IG ls gb)).length - ([] ++ (List.range m).map (IB ls bb)).length = k := by simp; omega
  rw [e]; exact hx
theorem il_upd {V : Nat → Value} {l' : Ln} {g' b' : Nat} (hi : i < m) :
    (((IL c n m now ls gb bb X).set 0 (ArrR c 58 210 V)).set (1 + i) (GatR g' l'.C l'.H l'.N l'.ws)).set (1 + m + i) (BlkR b' 75 (bk l')) =
      ([ArrR c 58 210 V] ++ (List.range m).map (IG (updL ls i l') (updL gb i g'))) ++ (([] ++ (List.range m).map (IB (updL ls i l') (updL bb i b'))) ++ X) := by
  have e0 : (IL c n m now ls gb bb X).set 0 (ArrR c 58 210 V) = ([ArrR c 58 210 V] ++ (List.range m).map (IG ls gb)) ++ (([] ++ (List.range m).map (IB ls bb)) ++ X) := rfl
  rw [e0, List.set_append_left _ _ (by simp; omega)]
  have e1 := fam_set [ArrR c 58 210 V] (IG ls gb) (GatR g' l'.C l'.H l'.N l'.ws) hi
  have l1 : ([ArrR c 58 210 V]).length = 1 := rfl
  rw [l1] at e1
  rw [e1, List.set_append_right _ _ (by simp; omega)]
  have l2 : 1 + m + i - ([ArrR c 58 210 V] ++ (List.range m).map (fun j => if j = i then GatR g' l'.C l'.H l'.N l'.ws else IG ls gb j)).length = 0 + i := by simp; omega
  rw [l2, List.set_append_left _ _ (by simp; omega)]
  have e2 := fam_set [] (IB ls bb) (BlkR b' 75 (bk l')) hi
  have l3 : ([] : List Res).length = 0 := rfl
  rw [l3] at e2
  rw [e2]
  have f1 : (fun j => if j = i then GatR g' l'.C l'.H l'.N l'.ws else IG ls gb j) = IG (updL ls i l') (updL gb i g') := by
    funext j; unfold IG updL; by_cases h : j = i
    · rw [if_pos h, if_pos h, if_pos h]
    · rw [if_neg h, if_neg h, if_neg h]
  have f2 : (fun j => if j = i then BlkR b' 75 (bk l') else IB ls bb j) = IB (updL ls i l') (updL bb i b') := by
    funext j; unfold IB updL; by_cases h : j = i
    · rw [if_pos h, if_pos h, if_pos h]
    · rw [if_neg h, if_neg h, if_neg h]
  rw [f1, f2]
theorem il_as {V : Nat → Value} (h : St w0 S0 w (([ArrR c 58 210 V] ++ (List.range m).map (IG ls gb)) ++ (([] ++ (List.range m).map (IB ls bb)) ++ X))) (hV : ∀ j, j < 210 → cv n m now ls gb bb j = V j) : St w0 S0 w (IL c n m now ls gb bb X) := by
  have h2 := h.arr_like 0 rfl hV
  exact h2
/-- One line of it was turned: its cells, its gatherer, its tokens. -/
theorem il_fin {V : Nat → Value} {l' : Ln} {g' b' : Nat} (hi : i < m) (h : St w0 S0 w ((((IL c n m now ls gb bb X).set 0 (ArrR c 58 210 V)).set (1 + i) (GatR g' l'.C l'.H l'.N l'.ws)).set (1 + m + i) (BlkR b' 75 (bk l'))))
    (hV : ∀ j, j < 210 → cv n m now (updL ls i l') (updL gb i g') (updL bb i b') j = V j) : St w0 S0 w (IL c n m now (updL ls i l') (updL gb i g') (updL bb i b') X) := by
  rw [il_upd hi] at h
  exact il_as h hV
theorem il_cells {l' : Ln} (hm : m ≤ 16) (hi : i < m) (ho : ∀ q, q < 13 → lnCell l' (gb i) (bb i) q = lnCell (ls i) (gb i) (bb i) q) : ∀ j, j < 210 → cv n m now (updL ls i l') gb bb j = cv n m now ls gb bb j := by
  intro j hj
  have h := cv_set (n := n) (now := now) (ls := ls) (gb := gb) (bb := bb) (l' := l') (g' := gb i) (b' := bb i) (u := lnCell l' (gb i) (bb i) 0) hi (by omega) (show 0 < 13 by decide) rfl (fun q hq _ => ho q hq) j hj
  rw [updL_self, updL_self] at h
  rw [h]
  split
  · rename_i e; subst e; rw [ho 0 (by decide), ← cv_at (n := n) (now := now) (ls := ls) hi (by omega) (by decide)]
  · rfl
/-- One cell of its row was laid anew. -/
theorem il_cell {f : Nat} {u : Value} {l' : Ln} (hm : m ≤ 16) (hi : i < m) (hf : f < 13) (h : St w0 S0 w ((IL c n m now ls gb bb X).set 0 (ArrR c 58 210 (fun j => if j = i * 13 + f then u else cv n m now ls gb bb j))))
    (hu : lnCell l' (gb i) (bb i) f = u) (ho : ∀ q, q < 13 → q ≠ f → lnCell l' (gb i) (bb i) q = lnCell (ls i) (gb i) (bb i) q) (hg : l'.C = (ls i).C ∧ l'.H = (ls i).H ∧ l'.N = (ls i).N ∧ l'.ws = (ls i).ws) (hb : bk l' = bk (ls i)) :
    St w0 S0 w (IL c n m now (updL ls i l') gb bb X) := by
  have hG : ((IL c n m now ls gb bb X).set 0 (ArrR c 58 210 (fun j => if j = i * 13 + f then u else cv n m now ls gb bb j)))[1 + i]? = some (GatR (gb i) l'.C l'.H l'.N l'.ws) := by
    rw [List.getElem?_set_ne (by omega), il_g hi, hg.1, hg.2.1, hg.2.2.1, hg.2.2.2]; rfl
  have hB : (((IL c n m now ls gb bb X).set 0 (ArrR c 58 210 (fun j => if j = i * 13 + f then u else cv n m now ls gb bb j))).set (1 + i) (GatR (gb i) l'.C l'.H l'.N l'.ws))[1 + m + i]? = some (BlkR (bb i) 75 (bk l')) := by
    rw [List.getElem?_set_ne (by omega), List.getElem?_set_ne (by omega), il_b hi, hb]; rfl
  rw [← set_same hG, ← set_same hB] at h
  have h2 := il_fin (l' := l') hi h (cv_set (n := n) (now := now) (ls := ls) hi (by omega) hf hu ho)
  rw [updL_self, updL_self] at h2
  exact h2
/-- Its gatherer was turned. -/
theorem il_gat {l' : Ln} (hm : m ≤ 16) (hi : i < m) (h : St w0 S0 w ((IL c n m now ls gb bb X).set (1 + i) (GatR (gb i) l'.C l'.H l'.N l'.ws))) (ho : ∀ q, q < 13 → lnCell l' (gb i) (bb i) q = lnCell (ls i) (gb i) (bb i) q) (hb : bk l' = bk (ls i)) :
    St w0 S0 w (IL c n m now (updL ls i l') gb bb X) := by
  have h0 : (IL c n m now ls gb bb X).set 0 (ArrR c 58 210 (cv n m now ls gb bb)) = IL c n m now ls gb bb X := set_same il_0
  have hB : (((IL c n m now ls gb bb X).set 0 (ArrR c 58 210 (cv n m now ls gb bb))).set (1 + i) (GatR (gb i) l'.C l'.H l'.N l'.ws))[1 + m + i]? = some (BlkR (bb i) 75 (bk l')) := by
    rw [h0, List.getElem?_set_ne (by omega), il_b hi, hb]; rfl
  rw [← h0, ← set_same hB] at h
  have h2 := il_fin (l' := l') (g' := gb i) (b' := bb i) hi h (by rw [updL_self, updL_self]; exact il_cells hm hi ho)
  rw [updL_self, updL_self] at h2
  exact h2
/-- Its tokens were turned. -/
theorem il_buc {l' : Ln} (hm : m ≤ 16) (hi : i < m) (h : St w0 S0 w ((IL c n m now ls gb bb X).set (1 + m + i) (BlkR (bb i) 75 (bk l')))) (ho : ∀ q, q < 13 → lnCell l' (gb i) (bb i) q = lnCell (ls i) (gb i) (bb i) q) (hg : l'.C = (ls i).C ∧ l'.H = (ls i).H ∧ l'.N = (ls i).N ∧ l'.ws = (ls i).ws) :
    St w0 S0 w (IL c n m now (updL ls i l') gb bb X) := by
  have h0 : (IL c n m now ls gb bb X).set 0 (ArrR c 58 210 (cv n m now ls gb bb)) = IL c n m now ls gb bb X := set_same il_0
  have hG : ((IL c n m now ls gb bb X).set 0 (ArrR c 58 210 (cv n m now ls gb bb)))[1 + i]? = some (GatR (gb i) l'.C l'.H l'.N l'.ws) := by
    rw [h0, il_g hi, hg.1, hg.2.1, hg.2.2.1, hg.2.2.2]; rfl
  rw [← h0, ← set_same hG] at h
  have h2 := il_fin (l' := l') (g' := gb i) (b' := bb i) hi h (by rw [updL_self, updL_self]; exact il_cells hm hi ho)
  rw [updL_self, updL_self] at h2
  exact h2
theorem il_at {f : Nat} (h : St w0 S0 w (IL c n m now ls gb bb X)) (hm : m ≤ 16) (hi : i < m) (hf : f < 13) : w.cell? ⟨c, i * 13 + f, none⟩ = some (lnCell (ls i) (gb i) (bb i) f) := by
  rw [h.arr_cell 0 il_0 (by omega), cv_at hi (by omega) hf]
theorem il_put {f : Nat} {l' : Ln} (hm : m ≤ 16) (hi : i < m) (hf : f < 13) (h : St w0 S0 w (IL c n m now ls gb bb X)) (u : Value) (hu : lnCell l' (gb i) (bb i) f = u) (ho : ∀ q, q < 13 → q ≠ f → lnCell l' (gb i) (bb i) q = lnCell (ls i) (gb i) (bb i) q)
    (hg : l'.C = (ls i).C ∧ l'.H = (ls i).H ∧ l'.N = (ls i).N ∧ l'.ws = (ls i).ws) (hb : bk l' = bk (ls i)) : St w0 S0 (w.setCell ⟨c, i * 13 + f, none⟩ u) (IL c n m now (updL ls i l') gb bb X) :=
  il_cell hm hi hf (h.arr_set 0 il_0 (k := i * 13 + f) (by omega) u) hu ho hg hb
theorem il_frozen (h : St w0 S0 w (IL c n m now ls gb bb X)) (k : Nat) : w.frozen? ⟨c, k, none⟩ = false := h.arr_frozen 0 il_0 k
/-! ### Delivering -/
theorem deliver_o (H : St w0 S0 w (IL c n m now ls gb bb X)) (hm : m ≤ 16) (hi : i < m) {t t0 R : Int} (hk : (ls i).ok t0 R) (ht : t0 ≤ t) (hl : t < 4611686018427387904) :
    Calls Try.prog 31 #[.pointer (some ⟨c, i * 13, none⟩), .int .u64 t] w fun e w' => e = .returned (.tuple #[]) ∧ St w0 S0 w' (IL c n m now (updL ls i ((ls i).deliver t)) gb bb X) := by
  have c8 : w.cell? ⟨c, i * 13 + 8, none⟩ = some (.int .i64 (ls i).held) := il_at H hm hi (by decide)
  have c9 : w.cell? ⟨c, i * 13 + 9, none⟩ = some (.int .i64 (ls i).pends) := il_at H hm hi (by decide)
  have c10 : w.cell? ⟨c, i * 13 + 10, none⟩ = some (.bool (ls i).masked) := il_at H hm hi (by decide)
  have c7 : w.cell? ⟨c, i * 13 + 7, none⟩ = some (.pointer (some ⟨bb i, 0, none⟩)) := il_at H hm hi (by decide)
  have HH := Lib.hid H
  have HK := Lib.hid hk
  obtain ⟨l, hli⟩ : ∃ l, ls i = l := ⟨_, rfl⟩
  have HLI := Lib.hid hli
  rw [hli] at c8 c9 c10 HK ⊢
  have HD := Lib.hid (show l.deliver t = if l.masked = true ∨ 0 < l.pends ∨ l.held = 0 then l else if bu.tk l.D l.E l.BN l.BT t = 0 then { l with BN := t, BT := 0 } else { l with BN := t, BT := bu.tk l.D l.E l.BN l.BT t - 1, pends := l.held, held := 0 } from rfl)
  have same : ∀ w1, St w0 S0 w1 (IL c n m now ls gb bb X) → l.deliver t = l → St w0 S0 w1 (IL c n m now (updL ls i (l.deliver t)) gb bb X) := fun w1 h e => by rw [e, ← HLI.out, updL_self]; exact h
  have SAME := Lib.hid same
  obtain ⟨hd, hhd⟩ : ∃ hd, l.held = hd := ⟨_, rfl⟩
  obtain ⟨pe, hpe⟩ : ∃ pe, l.pends = pe := ⟨_, rfl⟩
  obtain ⟨mk, hmk⟩ : ∃ mk, l.masked = mk := ⟨_, rfl⟩
  have HV := Lib.hid (And.intro hhd (And.intro hpe hmk))
  rw [hhd] at c8
  rw [hpe] at c9
  rw [hmk] at c10
  clear H hk hli hhd hpe hmk same
  cases mk with
  | true =>
    have E := Lib.hid (SAME.out w HH.out (by rw [HD.out, if_pos (Or.inl HV.out.2.2)]))
    go_enter Try.func31, Try.ntmps31
    go_wp2_with fail
    refine bodyPost_ret (v := .tuple #[]) ?_ rfl ⟨rfl, E.out⟩
    simp [results, go_sem]
  | false =>
    by_cases h1 : 0 < pe
    · have d1 : decide (0 < pe) = true := decide_eq_true h1
      have E := Lib.hid (SAME.out w HH.out (by rw [HD.out, if_pos (Or.inr (Or.inl (by rw [HV.out.2.1]; exact h1)))]))
      clear h1
      go_enter Try.func31, Try.ntmps31
      go_wp2_with fail
      refine bodyPost_ret (v := .tuple #[]) ?_ rfl ⟨rfl, E.out⟩
      simp [results, go_sem]
    have d1 : decide (0 < pe) = false := decide_eq_false h1
    by_cases h2 : hd = 0
    · subst h2
      have E := Lib.hid (SAME.out w HH.out (by rw [HD.out, if_pos (Or.inr (Or.inr HV.out.1))]))
      clear h1
      go_enter Try.func31, Try.ntmps31
      go_wp2_with fail
      refine bodyPost_ret (v := .tuple #[]) ?_ rfl ⟨rfl, E.out⟩
      simp [results, go_sem]
    have d2 : (hd == 0) = false := beq_eq_false_iff_ne.2 h2
    have hne : ¬ (l.masked = true ∨ 0 < l.pends ∨ l.held = 0) := by
      rw [HV.out.1, HV.out.2.1, HV.out.2.2]; rintro (h | h | h)
      · cases h
      · exact h1 h
      · exact h2 h
    have hb : bu.Bk w (bb i) l.D l.E l.BN l.BT := by have h := HH.out.blk (1 + m + i) (il_b hi); rw [HLI.out] at h; exact h
    by_cases h3 : bu.tk l.D l.E l.BN l.BT t = 0
    · have TC := Lib.hid (bu.take_no (bb i) l.D l.E l.BN l.BT t w hb HK.out.b (by have := HK.out.bn; omega) hl h3)
      have E := Lib.hid (show l.deliver t = { l with BN := t, BT := 0 } by rw [HD.out, if_neg hne, if_pos h3])
      clear h1 h2 h3 hne hb
      go_enter Try.func31, Try.ntmps31
      go_wp2_with fail
      refine TC.out.mono ?_
      rintro e w1 ⟨rfl, hb1, ho1⟩
      have u1 := HH.out.blk_turn (1 + m + i) (il_b hi) hb1 ho1
      have u2 := Lib.hid (il_buc (l' := { l with BN := t, BT := 0 }) hm hi u1 (fun q hq => by rw [HLI.out]; rfl) (by rw [HLI.out]; exact ⟨rfl, rfl, rfl, rfl⟩))
      clear hb1 ho1 u1 TC
      go_wp2_with fail
      go_end0
      exact ⟨rfl, by rw [E.out]; exact u2.out⟩
    · have hbo := HK.out.b
      have bd := bu.tk_bd hbo.2.2.2.2.1 (show l.BN ≤ t by have := HK.out.bn; omega) hbo.2.2.1 hbo.2.2.2.2.2.1 hbo.2.2.2.2.2.2
      have TC := Lib.hid (bu.take_yes (bb i) l.D l.E l.BN l.BT t w hb HK.out.b (by have := HK.out.bn; omega) hl (by omega))
      have E := Lib.hid (show l.deliver t = { l with BN := t, BT := bu.tk l.D l.E l.BN l.BT t - 1, pends := l.held, held := 0 } by rw [HD.out, if_neg hne, if_neg h3])
      clear h1 h2 h3 hne hb hbo bd
      go_enter Try.func31, Try.ntmps31
      go_wp2_with fail
      refine TC.out.mono ?_
      rintro e w1 ⟨rfl, hb1, ho1⟩
      have u1 := HH.out.blk_turn (1 + m + i) (il_b hi) hb1 ho1
      have u2 := il_buc (l' := { l with BN := t, BT := bu.tk l.D l.E l.BN l.BT t - 1 }) hm hi u1 (fun q hq => by rw [HLI.out]; rfl) (by rw [HLI.out]; exact ⟨rfl, rfl, rfl, rfl⟩)
      have a8 : w1.cell? ⟨c, i * 13 + 8, none⟩ = some (.int .i64 hd) := by have h := il_at u2 hm hi (f := 8) (by decide); rw [updL_same] at h; rw [← HV.out.1]; exact h
      have f8 := il_frozen u2 (i * 13 + 8)
      have a9 : w1.cell? ⟨c, i * 13 + 9, none⟩ = some (.int .i64 pe) := by have h := il_at u2 hm hi (f := 9) (by decide); rw [updL_same] at h; rw [← HV.out.2.1]; exact h
      have f9 := il_frozen u2 (i * 13 + 9)
      have u3 := il_put (l' := { l with BN := t, BT := bu.tk l.D l.E l.BN l.BT t - 1, pends := l.held }) hm hi (f := 9) (by decide) u2 (.int .i64 hd) (by rw [← HV.out.1]; rfl) (fun q hq hn => by rw [updL_same]; match q, hn with
        | 0, _ | 1, _ | 2, _ | 3, _ | 4, _ | 5, _ | 6, _ | 7, _ | 8, _ | 10, _ | 11, _ => rfl
        | 9, h => exact absurd rfl h
        | q + 12, _ => rfl) (by rw [updL_same]; exact ⟨rfl, rfl, rfl, rfl⟩) (by rw [updL_same]; rfl)
      rw [updL_twice] at u3
      have b8 := il_at u3 hm hi (f := 8) (by decide)
      have g8 := il_frozen u3 (i * 13 + 8)
      have u4 := il_put (l' := { l with BN := t, BT := bu.tk l.D l.E l.BN l.BT t - 1, pends := l.held, held := 0 }) hm hi (f := 8) (by decide) u3 (.int .i64 0) rfl (fun q hq hn => by rw [updL_same]; match q, hn with
        | 0, _ | 1, _ | 2, _ | 3, _ | 4, _ | 5, _ | 6, _ | 7, _ | 9, _ | 10, _ | 11, _ => rfl
        | 8, h => exact absurd rfl h
        | q + 12, _ => rfl) (by rw [updL_same]; exact ⟨rfl, rfl, rfl, rfl⟩) (by rw [updL_same]; rfl)
      rw [updL_twice] at u4
      have U4 := Lib.hid u4
      clear hb1 ho1 u1 u2 u3 u4 TC c7 c8 c9 c10
      go_wp2_with fail
      go_end0
      exact ⟨rfl, by rw [E.out]; exact U4.out⟩
end
end Go.Proofs.Ytaoioejgealciaa
