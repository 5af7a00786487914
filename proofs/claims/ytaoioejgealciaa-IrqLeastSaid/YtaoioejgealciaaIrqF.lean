/- Layer 13: will something pend; what is checked; the time of all goes on. -/
import Derived.Test.YtaoioejgealciaaIrqE
namespace Go.Proofs.Ytaoioejgealciaa
open Go.RowKit
set_option linter.unusedVariables false
set_option maxRecDepth 100000
set_option maxHeartbeats 2000000
/-- Its tokens are counted anew. -/
def Ln.fresh (l : Ln) (t : Int) : Ln := { l with BN := t, BT := bu.tk l.D l.E l.BN l.BT t }
theorem Ln.fresh_ok {l : Ln} {t R : Int} (h : l.ok t R) (ht : 0 ≤ t) : (l.fresh t).ok t R := by
  have hb := h.b
  obtain ⟨b1, b2, b3, b4, b5, b6, b7⟩ := hb
  have bd := bu.tk_bd b5 h.bn b3 b6 b7
  exact ⟨h.may, h.g, h.gn, ⟨b1, b2, b3, b4, ht, bd.1, bd.2⟩, Int.le_refl _, h.h0, h.p0, h.w0, h.r0, h.sum, h.rs, h.big⟩
theorem fired_same (l : Ln) (t : Int) : (l.fired t).pends = l.pends ∧ (l.fired t).masked = l.masked ∧ (l.fired t).D = l.D ∧ (l.fired t).E = l.E ∧ (l.fired t).BN = l.BN ∧ (l.fired t).BT = l.BT := by
  unfold Ln.fired
  split <;> exact ⟨rfl, rfl, rfl, rfl, rfl, rfl⟩
/-- What pends goes on pending. -/
theorem goOn_pends {l : Ln} {t : Int} (h : 0 < l.pends) : (l.goOn t).pends = l.pends := by
  have hs := fired_same l t
  unfold Ln.goOn Ln.deliver
  rw [if_pos (Or.inr (Or.inl (by rw [hs.1]; exact h)))]
  exact hs.1
theorem goOn_taken {l : Ln} {t : Int} (h0 : 0 ≤ l.held) (hp : l.pends = 0) (hm : l.masked = false) (hd : l.held ≠ 0 ∨ (1 ≤ l.ws.length ∧ l.ws.getD 0 0 + l.H ≤ t)) (hk : 1 ≤ bu.tk l.D l.E l.BN l.BT t) : 0 < (l.goOn t).pends := by
  obtain ⟨h1, h2, h3, h4, h5, h6⟩ := fired_same l t
  have hf : 0 < (l.fired t).held := by
    unfold Ln.fired
    by_cases hc : 1 ≤ l.ws.length ∧ l.ws.getD 0 0 + l.H ≤ t
    · rw [if_pos hc]; show 0 < l.held + (l.ws.length : Int); omega
    · rw [if_neg hc]; rcases hd with hd | hd
      · show 0 < l.held; omega
      · exact absurd hd hc
  unfold Ln.goOn Ln.deliver
  rw [if_neg (by rw [h1, h2, hm, hp]; rintro (h | h | h); · cases h
                 · omega
                 · omega), h3, h4, h5, h6, if_neg (by omega)]
  exact hf
section
variable {w0 w w1 w' : World} {S0 S : Nat → Prop} {L X : List Res} {c n m i : Nat} {now : Int} {ls : Nat → Ln} {gb bb : Nat → Nat}
theorem il_g2 (hi : i < m) : (IL c n m now ls gb bb X)[1 + i]? = some (GatR (gb i) (ls i).C (ls i).H (ls i).N (ls i).ws) := il_g hi
theorem willPend_o (H : St w0 S0 w (IL c n m now ls gb bb X)) (hm : m ≤ 16) (hi : i < m) {t R : Int} (hk : (ls i).ok now R) (h0 : 0 ≤ now) (ht : now ≤ t) (hl : t < 4611686018427387904) (hb : now < 1152921504606846976) :
    Calls Try.prog 29 #[.pointer (some ⟨c, i * 13, none⟩), .int .u64 now, .int .u64 t] w fun e w' => ∃ r l1, e = .returned (.bool r) ∧ (l1 = ls i ∨ l1 = (ls i).fresh now) ∧ St w0 S0 w' (IL c n m now (updL ls i l1) gb bb X) ∧ (r = true → (ls i).masked = false ∧ 0 < (l1.goOn t).pends) ∧ (r = false → (ls i).masked = true ∨ (ls i).pends = 0) := by
  obtain ⟨l, hli⟩ : ∃ l, ls i = l := ⟨_, rfl⟩
  have HLI := Lib.hid hli
  have HH := Lib.hid H
  have c8 : w.cell? ⟨c, i * 13 + 8, none⟩ = some (.int .i64 l.held) := by have h := il_at H hm hi (f := 8) (by decide); rw [hli] at h; exact h
  have c9 : w.cell? ⟨c, i * 13 + 9, none⟩ = some (.int .i64 l.pends) := by have h := il_at H hm hi (f := 9) (by decide); rw [hli] at h; exact h
  have c10 : w.cell? ⟨c, i * 13 + 10, none⟩ = some (.bool l.masked) := by have h := il_at H hm hi (f := 10) (by decide); rw [hli] at h; exact h
  have c6 : w.cell? ⟨c, i * 13 + 6, none⟩ = some (.pointer (some ⟨gb i, 0, none⟩)) := il_at H hm hi (by decide)
  obtain ⟨v, ok, hDue⟩ := dueR_ex l.H l.ws
  have GD := Lib.hid (gat_due H (1 + i) (il_g hi) (by rw [hli]; exact (hli ▸ hk).g) (by rw [hli]; exact hDue))
  have same : ∀ w1, St w0 S0 w1 (IL c n m now ls gb bb X) → St w0 S0 w1 (IL c n m now (updL ls i l) gb bb X) := fun w1 h => by rw [← HLI.out, updL_self]; exact h
  have SAME := Lib.hid same
  rw [hli] at hk ⊢
  have HK := Lib.hid hk
  have hp0 := hk.p0
  have hh0 := hk.h0
  obtain ⟨hd, hhd⟩ : ∃ hd, l.held = hd := ⟨_, rfl⟩
  obtain ⟨pe, hpe⟩ : ∃ pe, l.pends = pe := ⟨_, rfl⟩
  obtain ⟨mk, hmk⟩ : ∃ mk, l.masked = mk := ⟨_, rfl⟩
  have HV := Lib.hid (And.intro hhd (And.intro hpe hmk))
  rw [hhd] at c8 hh0
  rw [hpe] at c9 hp0
  rw [hmk] at c10
  have HDU := Lib.hid hDue
  clear H hk hli same hDue hhd hpe hmk
  cases mk with
  | true =>
    clear GD
    go_enter Try.func29, Try.ntmps29
    go_wp2_with fail
    go_ret
    exact ⟨false, l, rfl, Or.inl rfl, SAME.out _ HH.out, fun h => (by cases h), fun _ => Or.inl HV.out.2.2⟩
  | false =>
    by_cases h1 : 0 < pe
    · have d1 : decide (0 < pe) = true := decide_eq_true h1
      clear GD
      have HP := Lib.hid h1
      clear h1
      go_enter Try.func29, Try.ntmps29
      go_wp2_with fail
      go_ret
      exact ⟨true, l, rfl, Or.inl rfl, SAME.out _ HH.out, fun _ => ⟨HV.out.2.2, by rw [goOn_pends (by rw [HV.out.2.1]; exact HP.out), HV.out.2.1]; exact HP.out⟩, fun h => (by cases h)⟩
    have d1 : decide (0 < pe) = false := decide_eq_false h1
    have hpz : pe = 0 := by omega
    have HPZ := Lib.hid hpz
    by_cases h2 : hd = 0 ∧ (ok = false ∨ t < v)
    · obtain ⟨rfl, h2⟩ := h2
      have d2 : decide (t < v) = true ∨ ok = false := h2.elim Or.inr fun h => Or.inl (decide_eq_true h)
      clear h1 hpz h2
      cases ok with
      | false =>
        clear d2
        go_enter Try.func29, Try.ntmps29
        go_wp2_with fail
        refine GD.out.mono ?_
        rintro e w2 ⟨rfl, s2⟩
        rw [set_same (il_g2 hi)] at s2
        have q8 : w2.cell? ⟨c, i * 13 + 8, none⟩ = some (.int .i64 0) := by have h := il_at s2 hm hi (f := 8) (by decide); rw [HLI.out] at h; rw [← HV.out.1]; exact h
        have S2 := Lib.hid s2
        clear s2 c8
        go_wp2_with fail
        go_ret
        exact ⟨false, l, rfl, Or.inl rfl, SAME.out _ S2.out, fun h => (by cases h), fun _ => Or.inr (HV.out.2.1.trans HPZ.out)⟩
      | true =>
        have d2 : decide (t < v) = true := d2.elim id fun h => by cases h
        go_enter Try.func29, Try.ntmps29
        go_wp2_with fail
        refine GD.out.mono ?_
        rintro e w2 ⟨rfl, s2⟩
        rw [set_same (il_g2 hi)] at s2
        have q8 : w2.cell? ⟨c, i * 13 + 8, none⟩ = some (.int .i64 0) := by have h := il_at s2 hm hi (f := 8) (by decide); rw [HLI.out] at h; rw [← HV.out.1]; exact h
        have S2 := Lib.hid s2
        clear s2 c8
        go_wp2_with fail
        go_ret
        exact ⟨false, l, rfl, Or.inl rfl, SAME.out _ S2.out, fun h => (by cases h), fun _ => Or.inr (HV.out.2.1.trans HPZ.out)⟩
    have hdue : l.held ≠ 0 ∨ (1 ≤ l.ws.length ∧ l.ws.getD 0 0 + l.H ≤ t) := by
      by_cases hz : hd = 0
      · right
        rcases HDU.out with ⟨_, _, hf⟩ | ⟨g1, g2, g3, g4⟩ | ⟨_, _, _, hf⟩
        · exact absurd ⟨hz, Or.inl hf⟩ h2
        · exact ⟨g1, by have : ¬ t < v := fun h => h2 ⟨hz, Or.inr h⟩; omega⟩
        · exact absurd ⟨hz, Or.inl hf⟩ h2
      · left; rw [HV.out.1]; exact hz
    have HDUE := Lib.hid hdue
    have hbk := HK.out.b
    have bd := bu.tk_bd hbk.2.2.2.2.1 HK.out.bn hbk.2.2.1 hbk.2.2.2.2.2.1 hbk.2.2.2.2.2.2
    -- the test of region 4 is false
    have dz : (hd == 0) = false ∨ (hd = 0 ∧ ok = true ∧ decide (t < v) = false) := by
      by_cases hz : hd = 0
      · right
        refine ⟨hz, ?_, decide_eq_false fun h => h2 ⟨hz, Or.inr h⟩⟩
        cases ok with
        | true => rfl
        | false => exact absurd ⟨hz, Or.inl rfl⟩ h2
      · left; exact beq_eq_false_iff_ne.2 hz
    have CB : ∀ w2, St w0 S0 w2 (IL c n m now ls gb bb X) → bu.Bk w2 (bb i) l.D l.E l.BN l.BT := fun w2 s2 => by have h := s2.blk (1 + m + i) (il_b hi); rw [HLI.out] at h; exact h
    have c7 : ∀ w2, St w0 S0 w2 (IL c n m now ls gb bb X) → w2.cell? ⟨c, i * 13 + 7, none⟩ = some (.pointer (some ⟨bb i, 0, none⟩)) := fun w2 s2 => il_at s2 hm hi (by decide)
    have FR : ∀ w2 w3, St w0 S0 w2 (IL c n m now ls gb bb X) → bu.Bk w3 (bb i) l.D l.E now (bu.tk l.D l.E l.BN l.BT now) → Only (bb i) w2 w3 → St w0 S0 w3 (IL c n m now (updL ls i (l.fresh now)) gb bb X) := fun w2 w3 s2 hb1 ho1 => by
      have u1 := s2.blk_turn (1 + m + i) (il_b hi) hb1 ho1
      exact il_buc (l' := l.fresh now) hm hi u1 (fun q hq => by rw [HLI.out]; rfl) (by rw [HLI.out]; exact ⟨rfl, rfl, rfl, rfl⟩)
    have C7 := Lib.hid c7
    have HCB := Lib.hid CB
    have HFR := Lib.hid FR
    -- what the tokens' waiting tells
    have WT : ∀ w2, bu.Bk w2 (bb i) l.D l.E l.BN l.BT → ∃ tk, Calls Try.prog 40 #[.pointer (some ⟨bb i, 0, none⟩), .int .u64 now] w2 (fun e w' => e = .returned (.tuple #[.int .u64 tk, .int .i64 0]) ∧ bu.Bk w' (bb i) l.D l.E now (bu.tk l.D l.E l.BN l.BT now) ∧ Only (bb i) w2 w') ∧ (tk ≤ t → 1 ≤ bu.tk l.D l.E now (bu.tk l.D l.E l.BN l.BT now) t) := by
      intro w2 hb2
      have hE := hbk.2.2.1
      have e1 : now / l.E ≤ t / l.E := Int.ediv_le_ediv (by omega) ht
      by_cases hz : bu.tk l.D l.E l.BN l.BT now = 0
      · have e2 : now / l.E * l.E ≤ now := Int.ediv_mul_le _ (by omega)
        have W := bu.wait_next (bb i) l.D l.E l.BN l.BT now w2 hb2 hbk HK.out.bn (by omega) hz (by have := hbk.2.2.2.1; omega)
        refine ⟨_, by rw [hz]; exact W, fun hle => ?_⟩
        have e3 : now / l.E + 1 ≤ t / l.E := (Int.le_ediv_iff_mul_le (by omega)).2 (by rw [Int.add_mul, Int.one_mul]; exact hle)
        rw [hz]
        unfold bu.tk
        have := hbk.1
        split <;> omega
      · have W := bu.wait_now (bb i) l.D l.E l.BN l.BT now w2 hb2 hbk HK.out.bn (by omega) (by omega)
        refine ⟨_, W, fun _ => ?_⟩
        unfold bu.tk at hz bd ⊢
        split <;> omega
    have HWT := Lib.hid WT
    clear WT CB FR c7 hdue bd hbk h1 hpz h2 hp0 hh0
    have PEN : ∀ tk, tk ≤ t → (tk ≤ t → 1 ≤ bu.tk l.D l.E now (bu.tk l.D l.E l.BN l.BT now) t) → 0 < ((l.fresh now).goOn t).pends := fun tk h1 h2 =>
      goOn_taken (l := l.fresh now) HK.out.h0 (HV.out.2.1.trans HPZ.out) HV.out.2.2 HDUE.out (h2 h1)
    have HPEN := Lib.hid PEN
    clear PEN
    go_enter Try.func29, Try.ntmps29
    go_wp2_with fail
    refine GD.out.mono ?_
    rintro e w2 ⟨rfl, s2⟩
    rw [set_same (il_g2 hi)] at s2
    have q8 : w2.cell? ⟨c, i * 13 + 8, none⟩ = some (.int .i64 hd) := by have h := il_at s2 hm hi (f := 8) (by decide); rw [HLI.out] at h; rw [← HV.out.1]; exact h
    have q7 := C7.out _ s2
    have S2 := Lib.hid s2
    clear s2 c8
    obtain ⟨tk, HW, HT⟩ := HWT.out w2 (HCB.out _ S2.out)
    have HW := Lib.hid HW
    have HT := Lib.hid HT
    rcases dz with dz | ⟨rfl, rfl, dz⟩
    all_goals
      go_wp2_with fail
      refine HW.out.mono ?_
      rintro e w3 ⟨rfl, hb3, ho3⟩
      have S3 := Lib.hid (HFR.out _ _ S2.out hb3 ho3)
      clear hb3 ho3
      go_wp2_with fail
      go_ret
      refine ⟨decide (tk ≤ t), l.fresh now, rfl, Or.inr rfl, S3.out, fun h => ⟨HV.out.2.2, HPEN.out tk (of_decide_eq_true h) HT.out⟩, fun _ => Or.inr (HV.out.2.1.trans HPZ.out)⟩
/-- The time of the first k lines has gone on. -/
def goAll (ls : Nat → Ln) (t : Int) (k : Nat) : Nat → Ln := fun j => if j < k then (ls j).goOn t else ls j
theorem goAll_0 (ls : Nat → Ln) (t : Int) : goAll ls t 0 = ls := by funext j; unfold goAll; rw [if_neg (Nat.not_lt_zero _)]
theorem goAll_at (ls : Nat → Ln) (t : Int) (k : Nat) : goAll ls t k k = ls k := by unfold goAll; rw [if_neg (Nat.lt_irrefl _)]
theorem goAll_put (ls : Nat → Ln) (t : Int) (k : Nat) : updL (goAll ls t k) k ((ls k).goOn t) = goAll ls t (k + 1) := by
  funext j; unfold updL goAll
  by_cases h : j = k
  · subst h; rw [if_pos rfl, if_pos (by omega)]
  · rw [if_neg h]
    by_cases h2 : j < k
    · rw [if_pos h2, if_pos (by omega)]
    · rw [if_neg h2, if_neg (by omega)]
theorem il_n (h : St w0 S0 w (IL c n m now ls gb bb X)) : w.cell? ⟨c, 208, none⟩ = some (.int .i64 n) := by
  rw [h.arr_cell 0 il_0 (by omega)]; unfold cv; rw [if_pos rfl]
theorem il_now (h : St w0 S0 w (IL c n m now ls gb bb X)) : w.cell? ⟨c, 209, none⟩ = some (.int .u64 now) := by
  rw [h.arr_cell 0 il_0 (by omega)]; unfold cv; rw [if_neg (by omega), if_pos rfl]
theorem il_time (h : St w0 S0 w (IL c n m now ls gb bb X)) (t : Int) : St w0 S0 (w.setCell ⟨c, 209, none⟩ (.int .u64 t)) (IL c n m t ls gb bb X) := by
  have h1 := h.arr_set 0 il_0 (k := 209) (by omega) (.int .u64 t)
  have h2 := h1.arr_like (V' := cv n m t ls gb bb) 0 (by rw [List.getElem?_set_self (by rw [il_len]; omega)]) (fun j hj => cv_now j hj)
  rw [List.set_set] at h2
  exact h2
theorem check_ok (H : St w0 S0 w (IL c n m now ls gb bb X)) (hi : i < n) (hn : n ≤ 16) {t : Int} (ht : now ≤ t) (hl : t < 4611686018427387904) :
    Calls Try.prog 28 #[.pointer (some ⟨c, 0, none⟩), .int .u64 t, .int .i64 (i : Int)] w fun e w' => e = .returned (.int .i64 0) ∧ w' = w := by
  have c208 := il_n H
  have c209 := il_now H
  have d1 : decide ((0 : Int) ≤ (i : Int)) = true := decide_eq_true (by omega)
  have d2 : decide ((i : Int) < (n : Int)) = true := decide_eq_true (by omega)
  have d2' : decide (i < n) = true := decide_eq_true hi
  have d3 : decide (t < now) = false := decide_eq_false (by omega)
  go_enter Try.func28, Try.ntmps28
  go_wp2_with (first | (go_at_call 38; refine (may_yes _ _ hl).mono ?_; rintro e w' ⟨rfl, rfl⟩) | go_in)
  go_ret
  exact ⟨rfl, rfl⟩
theorem check_late (H : St w0 S0 w (IL c n m now ls gb bb X)) (hi : i < n) (hn : n ≤ 16) {t : Int} (ht : t < now) (hl : t < 4611686018427387904) :
    Calls Try.prog 28 #[.pointer (some ⟨c, 0, none⟩), .int .u64 t, .int .i64 (i : Int)] w fun e w' => e = .returned (.int .i64 1) ∧ w' = w := by
  have c208 := il_n H
  have c209 := il_now H
  have d1 : decide ((0 : Int) ≤ (i : Int)) = true := decide_eq_true (by omega)
  have d2 : decide ((i : Int) < (n : Int)) = true := decide_eq_true (by omega)
  have d2' : decide (i < n) = true := decide_eq_true hi
  have d3 : decide (t < now) = true := decide_eq_true ht
  go_enter Try.func28, Try.ntmps28
  go_wp2_with (first | (go_at_call 38; refine (may_yes _ _ hl).mono ?_; rintro e w' ⟨rfl, rfl⟩) | go_in)
  go_ret
  exact ⟨rfl, rfl⟩
theorem with_o (H : St w0 S0 w (IL c m m now ls gb bb X)) (hm : m ≤ 16) (hi : i < m) {t : Int} {R : Nat → Int} (hk : ∀ j, j < m → (ls j).ok now (R j)) (h0 : 0 ≤ now) (ht : now ≤ t) (hl : t < 4611686018427387904)
    {kf : Nat} {caps : Array Value} {Q : World → Prop} (he : ∀ (xs : Array Value) (W : World), (callFunc kf xs).run Try.prog W = .ok (.enter kf xs) W)
    (HC : ∀ w1, St w0 S0 w1 (IL c m m t (goAll ls t m) gb bb X) → Calls Try.prog kf (#[.pointer (some ⟨c, i * 13, none⟩)] ++ caps) w1 fun e w' => e = .returned (.tuple #[]) ∧ Q w') :
    Calls Try.prog 24 #[.pointer (some ⟨c, 0, none⟩), .int .u64 t, .int .i64 (i : Int), .func (Fn.func kf) #[] caps] w fun e w' => e = .returned (.int .i64 0) ∧ Q w' := by
  have CH := Lib.hid (check_ok H hi hm ht hl)
  have c209 := il_now H
  have f209 := il_frozen H 209
  have T := il_time H t
  have q208 := il_n T
  have TH := Lib.hid T
  have HCC := Lib.hid HC
  have HK := Lib.hid hk
  clear H T HC hk
  go_enter Try.func24, Try.ntmps24
  go_wp2_with (first | (go_at_call 28; refine CH.out.mono ?_; rintro e w' ⟨rfl, rfl⟩) | fail)
  have T0 := TH.out
  clear TH CH c209 f209
  go_loopw [26] (fun x wr => ∃ k : Nat, k ≤ m ∧ x = .int .i64 k ∧ St w0 S0 wr (IL c m m t (goAll ls t k) gb bb X)) (fun x _ => m - (intOf x).toNat)
  case atStart => exact ⟨0, by omega, rfl, by rw [goAll_0]; exact T0⟩
  case round =>
    clear T0 q208
    obtain ⟨k, hkm, rfl, sr⟩ := hrel
    have q208 := il_n sr
    by_cases hlt : k < m
    · have i0 : (0 : Int) ≤ (k : Int) := by omega
      have i1 : (k : Int) < 16 := by omega
      have i2 : (k : Int) < (m : Int) := by omega
      have GO := Lib.hid (goOn_o sr hm hlt (t := t) (t0 := now) (R := R k) (by rw [goAll_at]; exact HK.out k hlt) (by omega) ht hl)
      rw [goAll_at, goAll_put] at GO
      clear sr
      go_wp2_with fail
      refine GO.out.mono ?_
      rintro e w2 ⟨rfl, s2⟩
      have S2 := Lib.hid s2
      clear s2 GO
      go_wp2_with fail
      go_roundw
      case rel => exact ⟨k + 1, by omega, by go_num, S2.out⟩
      case measure => simp [intOf]; omega
    · obtain rfl : k = m := by omega
      have HX := Lib.hid (HCC.out _ sr)
      have i0 : (0 : Int) ≤ (i : Int) := by omega
      have i1 : (i : Int) < 16 := by omega
      clear sr HCC
      go_wp2_with fail
      refine HX.out.mono ?_
      rintro e w2 ⟨rfl, q⟩
      have HQ := Lib.hid q
      clear q
      go_wp2_with fail
      go_ret
      exact ⟨rfl, HQ.out⟩
end
end Go.Proofs.Ytaoioejgealciaa
