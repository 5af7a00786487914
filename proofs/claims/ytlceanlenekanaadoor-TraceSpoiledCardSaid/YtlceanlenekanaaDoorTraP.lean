/- Layer 25: the record of a text. -/
import Derived.Test.YtlceanlenekanaaDoorTraO
namespace Go.Proofs.YtlceanlenekanaaDoor
open Go.RowKit
set_option linter.unusedVariables false
set_option maxRecDepth 100000
set_option maxHeartbeats 4000000
theorem dg_low {b : UInt8} (h : isDg b = true) : b.toNat < 128 := by
  unfold isDg at h
  have := of_decide_eq_true h
  omega
theorem mkB_low {m : UInt8} (hm : m.toNat < 128) (x : Int) : ∀ b ∈ mkB m x, b.toNat < 128 := fun b hb => by
  rcases List.mem_cons.1 hb with rfl | hb
  · exact hm
  · exact dg_low (digs_all _ b hb)
theorem eachB_low {m : UInt8} (hm : m.toNat < 128) (l : List Int) : ∀ b ∈ eachB m l, b.toNat < 128 := fun b hb => by
  obtain ⟨x, _, hx⟩ := List.mem_flatMap.1 hb
  exact mkB_low hm x b hx
theorem txB_low (t : Tk) : ∀ b ∈ txB t, b.toNat < 128 := fun b hb => by
  unfold txB at hb
  rcases List.mem_append.1 hb with hb | hb
  · unfold whoB at hb
    split at hb
    · exact mkB_low (by decide) _ b hb
    · split at hb
      · exact mkB_low (by decide) _ b hb
      · rw [List.mem_singleton] at hb; rw [hb]; decide
  rcases List.mem_append.1 hb with hb | hb
  · exact eachB_low (by decide) _ b hb
  rcases List.mem_append.1 hb with hb | hb
  · exact eachB_low (by decide) _ b hb
  rcases List.mem_append.1 hb with hb | hb
  · exact eachB_low (by decide) _ b hb
  obtain ⟨f, _, hf⟩ := List.mem_flatMap.1 hb
  unfold ftB at hf
  rcases List.mem_append.1 hf with hf | hf
  · exact mkB_low (by decide) _ b hf
  · exact mkB_low (by split <;> decide) _ b hf
theorem low_or (s : List UInt8) : (∀ b ∈ s, b.toNat < 128) ∨ ∀ t, txB t ≠ s := by
  by_cases h : ∀ b ∈ s, b.toNat < 128
  · exact Or.inl h
  · exact Or.inr fun t e => h (e ▸ txB_low t)
theorem pr_high {s : List UInt8} (h : ∀ t, txB t ≠ s) : prB s = none := by
  cases e : prB s with
  | none => rfl
  | some t => exact absurd ((prB_iff s t).1 e).2 (h t)
theorem pr_none1 {s : List UInt8} (h : SpO s none) : prB s = none := by
  rcases low_or s with hl | hh
  · unfold prB; rw [← h.low hl]; rfl
  · exact pr_high hh
theorem pr_none2 {s : List UInt8} {l : List It} (h : SpO s (some l)) (hr : rdI l tk0 = none) : prB s = none := by
  rcases low_or s with hl | hh
  · unfold prB; rw [← h.low hl]; show (match rdI l tk0 with | none => none | some t => _) = none; rw [hr]
  · exact pr_high hh
theorem txO_tk0 : txO tk0 = [46] := by decide
theorem pr_some {s : List UInt8} {l : List It} {t : Tk} (h : SpO s (some l)) (hr : rdI l tk0 = some t) : prB s = if txO t = s then some t else none := by
  rcases low_or s with hl | hh
  · have hne : txO t = s → s ≠ [] := fun e hs => by
      subst hs
      have := h.low hl
      injection this with this
      have e2 : l = [] := this
      subst e2
      have e3 : some tk0 = some t := hr
      injection e3 with e3
      subst e3
      rw [txO_tk0] at e
      cases e
    unfold prB; rw [← h.low hl]; show (match rdI l tk0 with | none => none | some t => if s ≠ [] ∧ txO t = s then some t else none) = _; rw [hr]
    show (if s ≠ [] ∧ txO t = s then some t else none) = _
    by_cases e : txO t = s
    · rw [if_pos ⟨hne e, e⟩, if_pos e]
    · rw [if_neg (fun h => e h.2), if_neg e]
  · rw [pr_high hh, if_neg]
    intro e
    cases hm : mayT t with
    | true =>
      have : txO t = txB t := if_pos hm
      exact hh t (this ▸ e)
    | false =>
      have e0 : txO t = [] := if_neg (by rw [hm]; exact Bool.false_ne_true)
      rw [e0] at e
      subst e
      have := h.low (fun b hb => by cases hb)
      injection this with this
      have e2 : l = [] := this
      subst e2
      have e3 : some tk0 = some t := hr
      injection e3 with e3
      subst e3
      rw [txO_tk0] at e0
      cases e0
theorem fCs_get {fs : List (Int × Int × Int)} {i : Nat} {f : Int × Int × Int} (h : fs[i]? = some f) : (fCs fs)[i * 3]? = some (.int .i64 f.1) ∧ (fCs fs)[i * 3 + 1]? = some (.int .i64 f.2.1) ∧ (fCs fs)[i * 3 + 2]? = some (.int .i64 f.2.2) := by
  induction fs generalizing i with
  | nil => cases h
  | cons x fs ih =>
    have e : fCs (x :: fs) = .int .i64 x.1 :: .int .i64 x.2.1 :: .int .i64 x.2.2 :: fCs fs := by unfold fCs; rw [List.flatMap_cons]; rfl
    rw [e]
    cases i with
    | zero => injection h with h; subst h; exact ⟨rfl, rfl, rfl⟩
    | succ i =>
      rw [List.getElem?_cons_succ] at h
      have := ih h
      rw [show (i + 1) * 3 = i * 3 + 1 + 1 + 1 by omega]
      exact this
theorem St.rdf {w0 w : World} {S0 : Nat → Prop} {L : List Res} {e : TypeId} {B : Option Addr} {n c : Nat} {fs : List (Int × Int × Int)} (h : St w0 S0 w L) (i : Nat) (hi : L[i]? = some (LisR e 3 (.slice B n c) n (fCs fs))) : RdF w B fs := fun j f hf => by
  have hl := h.lis i hi
  obtain ⟨A, cap, ev, h1, h2, h3, h4⟩ := h.lis_cells i hi
  injection ev with e1 e2 e3
  subst e1; subst e3
  obtain ⟨q1, q2, q3⟩ := fCs_get hf
  rcases h4 with rfl | ⟨g, off, rfl, hc⟩
  · rw [Nat.zero_mul] at h3
    rw [List.length_eq_zero_iff.1 h3] at q1
    cases q1
  · exact ⟨g, off, rfl, hl.lt rfl, hc _ _ q1, by rw [Nat.add_assoc]; exact hc _ _ q2, by rw [Nat.add_assoc]; exact hc _ _ q3⟩
theorem St.recAt {w0 w : World} {S0 : Nat → Prop} {L : List Res} {t : Tk} {B1 B2 B3 B4 : Option Addr} {n1 n2 n3 n4 c1 c2 c3 c4 : Nat} (h : St w0 S0 w L) (q : Nat) (h1 : L[q]? = some (LisR 3 1 (.slice B1 n1 c1) n1 (ivI t.dn))) (h2 : L[q + 1]? = some (LisR 3 1 (.slice B2 n2 c2) n2 (ivI t.ct))) (h3 : L[q + 2]? = some (LisR 3 1 (.slice B3 n3 c3) n3 (ivI t.ms))) (h4 : L[q + 3]? = some (LisR 36 3 (.slice B4 n4 c4) n4 (fCs t.ft)))
    (hN : TkN t n1 n2 n3 n4) (hk : n1 ≤ 100000 ∧ n2 ≤ 100000 ∧ n3 ≤ 100000 ∧ n4 ≤ 100000) : (Rec.mk t B1 B2 B3 B4 n1 n2 n3 n4 c1 c2 c3 c4).At w :=
  ⟨hN.1, hN.2.1, hN.2.2.1, hN.2.2.2, hk.1, hk.2.1, hk.2.2.1, hk.2.2.2, (h.rdc q h1).1.ints, (h.rdc (q + 1) h2).1.ints, (h.rdc (q + 2) h3).1.ints, h.rdf (q + 3) h4⟩
theorem parse25_o (u : List UInt8) (w : World) (hs : u.length ≤ 100000) (hT : TabB w.heap.size w) : Calls Tryd.prog 12 #[.string ⟨u.toArray⟩] w fun e w' => (prB u = none ∧ e = .returned (.tuple #[.agg zTk, .int .i64 9]) ∧ St w None w' []) ∨ ∃ t B1 B2 B3 B4 n1 n2 n3 n4 c1 c2 c3 c4, prB u = some t ∧ TkN t n1 n2 n3 n4 ∧ (n1 ≤ 100000 ∧ n2 ≤ 100000 ∧ n3 ≤ 100000 ∧ n4 ≤ 100000) ∧ e = .returned (.tuple #[tkV t B1 B2 B3 B4 n1 n2 n3 n4 c1 c2 c3 c4, .int .i64 0]) ∧ St w None w' (TkM t B1 B2 B3 B4 n1 n2 n3 n4 c1 c2 c3 c4) := by
  have KS := Lib.hid (fun w => split_o ⟨u.toArray⟩ w (by show u.toArray.size ≤ _; simpa using hs))
  have hb := (St.begin w).box 27 #[.int .i64 0, .slice none 0 0, .slice none 0 0, .slice none 0 0, .slice none 0 0]
  obtain ⟨a, ha⟩ : ∃ a, w.heap.size = a := ⟨_, rfl⟩
  obtain ⟨P, hP⟩ : ∃ P, prB u = P := ⟨_, rfl⟩
  rw [hP]
  have HT := Lib.hid hT
  rw [ha] at hb
  have HB := Lib.hid hb
  have HPP := Lib.hid hP
  clear hb hP hT
  go_enter Tryd.func12, Tryd.ntmps12
  go_wp2_with fail
  refine (KS.out _).mono ?_
  rintro e w2 ⟨r, hO, hR⟩
  have hO : SpO u r := hO
  cases r with
  | none =>
    rcases hR with ⟨_, rfl, k2⟩ | ⟨l, _, _, h, _⟩
    rotate_left 1
    · cases h
    have HM := Lib.hid (show P = none by rw [← HPP.out]; exact pr_none1 hO)
    have S2 := Lib.hid (show St w None w2 [_] from HB.out.join k2)
    clear k2 hO
    have fa := (S2.out.blk 0 rfl).frozen
    obtain ⟨a0, a1, a2, a3, a4⟩ := (S2.out.blk 0 rfl).five5
    go_wp2_with fail
    (try simp only [Exit.inBlock, Exit.then])
    have s6 := ((((S2.out.set_ 0 rfl 0 (.int .i64 0)).set_ 0 rfl 1 (.slice none 0 0)).set_ 0 rfl 2 (.slice none 0 0)).set_ 0 rfl 3 (.slice none 0 0)).set_ 0 rfl 4 (.slice none 0 0)
    refine bodyPost_ret (v := .tuple #[.agg zTk, .int .i64 9]) ?_ rfl (Or.inl ⟨HM.out, rfl, s6.take 0⟩)
    obtain ⟨q0, q1, q2, q3, q4⟩ := (s6.blk 0 rfl).five5
    simp [results, go_sem, zTk, q0, q1, q2, q3, q4]
  | some l =>
    rcases hR with ⟨h, _⟩ | ⟨l', B, c, h, hls, rfl, k2⟩
    · cases h
    injection h with h
    subst h
    have hls : l.length ≤ u.length := by have : (⟨u.toArray⟩ : ByteArray).size = u.length := by show u.toArray.size = _; simp
                                         omega
    have s2 : St w None w2 [_, _] := HB.out.join k2
    obtain ⟨r2, n2, m2, _⟩ := s2.rdc 1 rfl
    have KR := read_o B l.length c l w2 rfl n2 m2 (by omega) r2 (hO.nums l rfl)
    unfold zTk tkV at KR
    replace KR := Lib.hid KR
    have S2 := Lib.hid s2
    have HO := Lib.hid hO
    clear s2 r2 k2 hO
    go_wp2_with fail
    refine KR.out.mono ?_
    rintro e w3 (⟨hr, rfl, k3⟩ | ⟨t, B1, B2, B3, B4, n1, n2, n3, n4, c1, c2, c3, c4, hr, hN, hk, hw, rfl, k3⟩)
    · have HM := Lib.hid (show P = none by rw [← HPP.out]; exact pr_none2 HO.out hr)
      have s3 : St w None w3 [_, _] := S2.out.join k3
      have S3 := Lib.hid (s3.box 27 #[.int .i64 0, .slice none 0 0, .slice none 0 0, .slice none 0 0, .slice none 0 0])
      clear k3 s3 hr
      have fa := (S3.out.blk 0 rfl).frozen
      obtain ⟨a0, a1, a2, a3, a4⟩ := (S3.out.blk 0 rfl).five5
      go_wp2_with fail
      (try simp only [Exit.inBlock, Exit.then])
      have s6 := ((((S3.out.set_ 0 rfl 0 (.int .i64 0)).set_ 0 rfl 1 (.slice none 0 0)).set_ 0 rfl 2 (.slice none 0 0)).set_ 0 rfl 3 (.slice none 0 0)).set_ 0 rfl 4 (.slice none 0 0)
      refine bodyPost_ret (v := .tuple #[.agg zTk, .int .i64 9]) ?_ rfl (Or.inl ⟨HM.out, rfl, s6.take 0⟩)
      obtain ⟨q0, q1, q2, q3, q4⟩ := (s6.blk 0 rfl).five5
      simp [results, go_sem, zTk, q0, q1, q2, q3, q4]
    · have s3 : St w None w3 [_, _, _, _, _, _] := S2.out.join k3
      obtain ⟨d, hd⟩ : ∃ d, w3.heap.size = d := ⟨_, rfl⟩
      have s4 := s3.box 27 #[.int .i64 t.who, .slice B1 n1 c1, .slice B2 n2 c2, .slice B3 n3 c3, .slice B4 n4 c4]
      rw [hd] at s4
      have hAt := s4.recAt (t := t) 2 rfl rfl rfl rfl hN hk
      have hT4 := tab_up (TabB.at_ HT.out (Nat.le_refl _) s4.below) s4.below.size
      have KT := ttext_o _ _ hAt (by unfold whoOk at hw; dsimp only; omega) hT4
      unfold stV Rec.cells at KT
      dsimp only at KT
      replace KT := Lib.hid KT
      have HPS := Lib.hid (pr_some HO.out hr)
      have HN := Lib.hid hN
      have S4 := Lib.hid s4
      have fd := (s4.blk 6 rfl).frozen
      obtain ⟨d0, d1, d2, d3, d4⟩ := (s4.blk 6 rfl).five5
      clear k3 s3 s4 hr hAt hT4 hN hw
      by_cases he : txO t = u
      · have y1 : (u == u) = true := beq_self_eq_true u
        have y2 : (u != u) = false := bne_self_eq_false u
        rw [he] at KT
        have HM := Lib.hid (show P = some t by rw [← HPP.out, HPS.out, if_pos he])
        clear he
        go_wp2_with (go_at_call 8; refine KT.out.mono ?_; rintro e w5 ⟨rfl, hb5⟩; have S5 := Lib.hid (S4.out.stay hb5); clear hb5; have fa := (S5.out.blk 0 rfl).frozen; obtain ⟨a0, a1, a2, a3, a4⟩ := (S5.out.blk 0 rfl).five5; have fd := (S5.out.blk 6 rfl).frozen; obtain ⟨d0, d1, d2, d3, d4⟩ := (S5.out.blk 6 rfl).five5)
        (try simp only [Exit.inBlock, Exit.then])
        have s6 := ((((S5.out.set_ 0 rfl 0 (.int .i64 t.who)).set_ 0 rfl 1 (.slice B1 n1 c1)).set_ 0 rfl 2 (.slice B2 n2 c2)).set_ 0 rfl 3 (.slice B3 n3 c3)).set_ 0 rfl 4 (.slice B4 n4 c4)
        have s7 := ((s6.drop 0 (Nat.zero_lt_succ _)).drop 0 (Nat.zero_lt_succ _)).take 4
        refine bodyPost_ret (v := .tuple #[tkV t B1 B2 B3 B4 n1 n2 n3 n4 c1 c2 c3 c4, .int .i64 0]) ?_ rfl (Or.inr ⟨t, B1, B2, B3, B4, n1, n2, n3, n4, c1, c2, c3, c4, HM.out, HN.out, hk, rfl, s7⟩)
        obtain ⟨q0, q1, q2, q3, q4⟩ := (s6.blk 0 rfl).five5
        simp [results, go_sem, tkV, q0, q1, q2, q3, q4]
      · have y2 : (txO t != u) = true := bne_iff_ne.2 he
        have y1 : (txO t == u) = false := beq_eq_false_iff_ne.2 he
        have HM := Lib.hid (show P = none by rw [← HPP.out, HPS.out, if_neg he])
        clear he
        go_wp2_with (go_at_call 8; refine KT.out.mono ?_; rintro e w5 ⟨rfl, hb5⟩; have S5 := Lib.hid (S4.out.stay hb5); clear hb5; have fa := (S5.out.blk 0 rfl).frozen; obtain ⟨a0, a1, a2, a3, a4⟩ := (S5.out.blk 0 rfl).five5)
        (try simp only [Exit.inBlock, Exit.then])
        have s6 := ((((S5.out.set_ 0 rfl 0 (.int .i64 0)).set_ 0 rfl 1 (.slice none 0 0)).set_ 0 rfl 2 (.slice none 0 0)).set_ 0 rfl 3 (.slice none 0 0)).set_ 0 rfl 4 (.slice none 0 0)
        refine bodyPost_ret (v := .tuple #[.agg zTk, .int .i64 9]) ?_ rfl (Or.inl ⟨HM.out, rfl, s6.take 0⟩)
        obtain ⟨q0, q1, q2, q3, q4⟩ := (s6.blk 0 rfl).five5
        simp [results, go_sem, zTk, q0, q1, q2, q3, q4]
end Go.Proofs.YtlceanlenekanaaDoor
