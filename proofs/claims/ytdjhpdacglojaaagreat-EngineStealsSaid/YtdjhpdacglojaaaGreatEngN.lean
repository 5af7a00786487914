/- Layer 24: how many bytes are written; one byte at a time. Layer 24: the slots that the engine has, in any span; all that EngineSteals keeps. Layer 24: what holds between two slots of EngineSteals. -/
import Derived.Test.YtdjhpdacglojaaaGreatEngI
namespace Go.Proofs.YtdjhpdacglojaaaGreat
open Go.RowKit
section
set_option linter.unusedVariables false
/-- How many are not 0. -/
def nz (l : List Int) : Nat := (l.filter (fun x => decide (x ≠ 0))).length
theorem nz_app (a b : List Int) : nz (a ++ b) = nz a + nz b := by unfold nz; rw [List.filter_append, List.length_append]
theorem nz_one (x : Int) : nz [x] ≤ 1 := by unfold nz; exact Nat.le_trans (List.length_filter_le _ _) (Nat.le_refl _)
theorem nz_zero (n : Nat) : nz (List.replicate n 0) = 0 := by
  unfold nz
  simp
theorem nz_set {l : List Int} {p : Nat} (x : Int) : nz (l.take p ++ ([x] ++ l.drop (p + 1))) ≤ nz l + 1 := by
  have h1 : nz l = nz (l.take p) + nz (l.drop p) := by rw [← nz_app, List.take_append_drop]
  have h2 : nz (l.drop (p + 1)) ≤ nz (l.drop p) := by
    rcases Nat.lt_or_ge p l.length with h | h
    · rw [List.drop_eq_getElem_cons h, show l[p] :: l.drop (p + 1) = [l[p]] ++ l.drop (p + 1) from rfl, nz_app]; omega
    · rw [List.drop_of_length_le (by omega), List.drop_of_length_le h]; exact Nat.le_refl _
  have h3 := nz_one x
  rw [nz_app, nz_app]
  omega
/-- Only inside [2, 6], of 8. -/
def inB (l : List Int) : Prop := l.length = 8 ∧ ∀ i, i < 8 → (i < 2 ∨ 6 < i) → l[i]? = some 0
theorem inB_set {l : List Int} {p : Nat} (h : inB l) (h2 : 2 ≤ p) (h6 : p ≤ 6) (x : Int) : inB (l.take p ++ ([x] ++ l.drop (p + 1))) := by
  obtain ⟨h8, hz⟩ := h
  refine ⟨by simp; omega, fun i hi ho => ?_⟩
  have ht : (l.take p).length = p := by rw [List.length_take]; omega
  rcases ho with ho | ho
  · rw [List.getElem?_append_left (by omega), List.getElem?_take_of_lt (by omega)]; exact hz i hi (Or.inl ho)
  · rw [List.getElem?_append_right (by omega), ht, List.getElem?_append_right (by simp; omega), List.getElem?_drop]
    rw [show p + 1 + (i - p - [x].length) = i by simp; omega]
    exact hz i hi (Or.inr ho)
/-- Four buffers, of which at most h bytes are written. -/
def BySt (st : Nat → po.Buf) (h : Nat) : Prop := (∀ i, i < 4 → inB (st i).bs) ∧ nz (st 0).bs + nz (st 1).bs + nz (st 2).bs + nz (st 3).bs ≤ h
theorem BySt.up {st : Nat → po.Buf} {h : Nat} (H : BySt st h) : BySt st (h + 1) := ⟨H.1, Nat.le_succ_of_le H.2⟩
theorem BySt.set {st : Nat → po.Buf} {h i p : Nat} {b' : po.Buf} {x : Int} (H : BySt st h) (hi : i < 4) (h2 : 2 ≤ p) (h6 : p ≤ 6) (hb : b'.bs = (st i).bs.take p ++ ([x] ++ (st i).bs.drop (p + 1))) : BySt (po.updB st i b') (h + 1) := by
  obtain ⟨h1, hs⟩ := H
  have hn := nz_set (l := (st i).bs) (p := p) x
  rw [← hb] at hn
  refine ⟨fun j hj => ?_, ?_⟩
  · by_cases e : j = i
    · rw [e, po.updB_self, hb]; exact inB_set (h1 i hi) h2 h6 x
    · rw [po.updB_ne _ _ e]; exact h1 j hj
  · rcases (show i = 0 ∨ i = 1 ∨ i = 2 ∨ i = 3 by omega) with rfl | rfl | rfl | rfl
    · rw [po.updB_self, po.updB_ne _ _ (show 1 ≠ 0 by omega), po.updB_ne _ _ (show 2 ≠ 0 by omega), po.updB_ne _ _ (show 3 ≠ 0 by omega)]; omega
    · rw [po.updB_self, po.updB_ne _ _ (show 0 ≠ 1 by omega), po.updB_ne _ _ (show 2 ≠ 1 by omega), po.updB_ne _ _ (show 3 ≠ 1 by omega)]; omega
    · rw [po.updB_self, po.updB_ne _ _ (show 0 ≠ 2 by omega), po.updB_ne _ _ (show 1 ≠ 2 by omega), po.updB_ne _ _ (show 3 ≠ 2 by omega)]; omega
    · rw [po.updB_self, po.updB_ne _ _ (show 0 ≠ 3 by omega), po.updB_ne _ _ (show 1 ≠ 3 by omega), po.updB_ne _ _ (show 2 ≠ 3 by omega)]; omega
/-- A byte of a piece from 2, of at most 5. -/
theorem wr_steal {D : Dv} {no at' cw x : Int} {st' : Nat → po.Buf} {h : Nat} (H : BySt D.st h) (hq : ∀ k, mayWr D no k → (D.rq k).frm = 2 ∧ (D.rq k).len ≤ 5) (hP : WrP 4 D no at' [x] cw st') : BySt st' (h + 1) := by
  rcases hP with ⟨-, -, rfl⟩ | ⟨k, hk, ⟨-, -, rfl⟩ | ⟨⟨p0, p1, p2⟩, hv⟩⟩
  · exact H.up
  · exact H.up
  · obtain ⟨q1, q2⟩ := hq k hk
    have p2 : (1 : Int) ≤ (D.rq k).len - at' := p2
    rcases hv with ⟨-, -, rfl⟩ | ⟨i, b', hi, f1, f2, f3, hB, rfl⟩
    · exact H.up
    · rcases hB with ⟨-, -, rfl⟩ | ⟨-, -, -, rfl⟩ | ⟨-, -, -, -, rfl⟩ | ⟨-, -, -, -, rfl⟩
      · rw [show po.updB D.st i (D.st i) = D.st from by funext j; by_cases e : j = i; · rw [e, po.updB_self]
                                                        · rw [po.updB_ne _ _ e]]; exact H.up
      · rw [show po.updB D.st i (D.st i) = D.st from by funext j; by_cases e : j = i; · rw [e, po.updB_self]
                                                        · rw [po.updB_ne _ _ e]]; exact H.up
      · rw [show po.updB D.st i (D.st i) = D.st from by funext j; by_cases e : j = i; · rw [e, po.updB_self]
                                                        · rw [po.updB_ne _ _ e]]; exact H.up
      · exact H.set (p := ((D.rq k).frm + at').toNat) (x := x) hi (by omega) (by omega) rfl
end
section
set_option linter.unusedVariables false
set_option maxRecDepth 100000
set_option maxHeartbeats 1000000
namespace bs
/-- What is known of the sum at time t, W the meter's window, T what was taken in it. -/
def J (B P bg t S W T : Int) : Prop := S = 0 ∨ (bg / P ≤ W ∧ W * P ≤ t - 1 ∧ S ≤ t - bg ∧ S ≤ B * (W - bg / P) + T)
theorem J.skip {B P bg t S W T : Int} (h : J B P bg t S W T) : J B P bg (t + 1) S W T := by
  rcases h with h | ⟨h1, h2, h3, h4⟩
  · exact Or.inl h
  · exact Or.inr ⟨h1, by omega, by omega, h4⟩
theorem win_of {P t W : Int} (hP : 1 ≤ P) (h : W * P ≤ t) : W ≤ t / P := (Int.le_ediv_iff_mul_le (by omega)).2 h
theorem J.more {B P bg t S W T v : Int} (h : J B P bg t S W T) (hP : 1 ≤ P) (hB : 0 ≤ B) (ht : 0 ≤ t) (hbt : bg ≤ t) (hW : W * P ≤ t) (hT : 0 ≤ T) (hTB : T ≤ B) (hv : 0 ≤ v) (hv1 : v ≤ 1) : J B P bg (t + 1) (S + v) (t / P) (tkn W T (t / P) + v) := by
  have hK : t / P * P ≤ t := Int.ediv_mul_le _ (by omega)
  have hb : bg / P ≤ t / P := Int.ediv_le_ediv (by omega) hbt
  have hWK := win_of hP hW
  by_cases hz : S + v = 0
  · exact Or.inl hz
  refine Or.inr ⟨hb, by omega, ?_, ?_⟩
  · rcases h with h | ⟨_, _, h3, _⟩ <;> omega
  · have hm : 0 ≤ B * (t / P - bg / P) := Int.mul_nonneg hB (by omega)
    unfold tkn
    rcases h with h | ⟨h1, h2, h3, h4⟩
    · subst h; split <;> omega
    · by_cases e : W = t / P
      · rw [if_pos e, ← e]; omega
      · rw [if_neg e]
        have : B * (W - bg / P) + B ≤ B * (t / P - bg / P) := by
          have h5 : B * (W - bg / P + 1) ≤ B * (t / P - bg / P) := Int.mul_le_mul_of_nonneg_left (by omega) hB
          rw [Int.mul_add] at h5; omega
        omega
theorem J.out {B P bg t S W T W' T' : Int} (h : J B P bg t S W T) (h0 : 0 ≤ S) (hbt : t < bg) : J B P bg (t + 1) S W' T' := by
  rcases h with h | ⟨_, _, h3, _⟩
  · exact Or.inl h
  · omega
theorem J.fin {B P bg n t S W T : Int} (h : J B P bg t S W T) (hs : 1 ≤ B ∧ B ≤ P ∧ P ≤ 1099511627776) (hb : 0 ≤ bg) (hn : 0 ≤ n) (ht : t ≤ bg + n) (hTB : T ≤ B) : S ≤ mst B P n := by
  have hu := tUp_nonneg hn (show 1 ≤ P by omega)
  have hm : 0 ≤ B * (tUp n P + 1) := Int.mul_nonneg (by omega) (by omega)
  rcases h with h | ⟨h1, h2, h3, h4⟩
  · subst h; unfold mst mn; split <;> omega
  · have he := tUp_enough (n := n) (show 1 ≤ P by omega)
    obtain ⟨_, _, _, _, h8⟩ := win_le (t := bg) (p := 0) (d := P) hb (by omega)
    rw [Int.sub_zero] at h8
    have hW : W ≤ bg / P + tUp n P := by
      have h5 : W * P < (bg / P + tUp n P + 1) * P := by rw [Int.add_mul, Int.add_mul]; omega
      have := Int.lt_of_mul_lt_mul_right h5 (by omega); omega
    have h6 : B * (W - bg / P + 1) ≤ B * (tUp n P + 1) := Int.mul_le_mul_of_nonneg_left (by omega) (by omega)
    rw [Int.mul_add] at h6
    unfold mst mn; split <;> omega
/-- The sum, ahead of the span's end and behind it. -/
def K2 (B P bg n t S W T : Int) : Prop := (t ≤ bg + n ∧ J B P bg t S W T) ∨ (bg + n < t ∧ S ≤ mst B P n)
theorem K2.skip {B P bg n t S W T : Int} (h : K2 B P bg n t S W T) (hs : 1 ≤ B ∧ B ≤ P ∧ P ≤ 1099511627776) (hb : 0 ≤ bg) (hn : 0 ≤ n) (hTB : T ≤ B) : K2 B P bg n (t + 1) S W T := by
  rcases h with ⟨h1, h2⟩ | ⟨h1, h2⟩
  · by_cases e : t + 1 ≤ bg + n
    · exact Or.inl ⟨e, h2.skip⟩
    · exact Or.inr ⟨by omega, h2.fin hs hb hn h1 hTB⟩
  · exact Or.inr ⟨by omega, h2⟩
theorem K2.inn {B P bg n t S W T v : Int} (h : K2 B P bg n t S W T) (hs : 1 ≤ B ∧ B ≤ P ∧ P ≤ 1099511627776) (ht : 0 ≤ t) (hb : bg ≤ t) (ht2 : t < bg + n) (hW : W * P ≤ t) (hT : 0 ≤ T) (hTB : T ≤ B) (hv : 0 ≤ v) (hv1 : v ≤ 1) : K2 B P bg n (t + 1) (S + v) (t / P) (tkn W T (t / P) + v) := by
  rcases h with ⟨h1, h2⟩ | ⟨h1, h2⟩
  · exact Or.inl ⟨by omega, h2.more (by omega) (by omega) ht hb hW hT hTB hv hv1⟩
  · omega
theorem K2.out {B P bg n t S W T W' T' : Int} (h : K2 B P bg n t S W T) (hs : 1 ≤ B ∧ B ≤ P ∧ P ≤ 1099511627776) (hb : 0 ≤ bg) (hn : 0 ≤ n) (h0 : 0 ≤ S) (ho : t < bg ∨ bg + n ≤ t) (hTB : T ≤ B) : K2 B P bg n (t + 1) S W' T' := by
  rcases h with ⟨h1, h2⟩ | ⟨h1, h2⟩
  · rcases ho with ho | ho
    · exact Or.inl ⟨by omega, h2.out h0 ho⟩
    · exact Or.inr ⟨by omega, h2.fin hs hb hn h1 hTB⟩
  · exact Or.inr ⟨by omega, h2⟩
theorem K2.fin {B P bg n t S W T : Int} (h : K2 B P bg n t S W T) (hs : 1 ≤ B ∧ B ≤ P ∧ P ≤ 1099511627776) (hb : 0 ≤ bg) (hn : 0 ≤ n) (hTB : T ≤ B) : S ≤ mst B P n := by
  rcases h with ⟨h1, h2⟩ | ⟨h1, h2⟩
  · exact h2.fin hs hb hn h1 hTB
  · exact h2
theorem div_le_next {t P : Int} (hP : 1 ≤ P) : (t - 1) / P ≤ t / P := Int.ediv_le_ediv (by omega) (by omega)
/-- One master's part of a tick: it took v. -/
theorem shr_one {B P bg nn S : Int} {t : Nat} {ws : List (Int × Int)} {v : Int} (hs : 1 ≤ B ∧ B ≤ P ∧ P ≤ 1099511627776) (hb : 0 ≤ bg) (hn : 0 ≤ nn) (hw : ∀ p ∈ ws, p.1 ≤ ((t : Int) - 1) / P) (hm : ∀ K, 0 ≤ sw K ws ∧ sw K ws ≤ B) (hk : K2 B P bg nn t S (((t : Int) - 1) / P) (sw (((t : Int) - 1) / P) ws)) (h0 : 0 ≤ S) (hv : 0 ≤ v) (hv1 : v ≤ 1) (x : Int) :
    (bg ≤ t ∧ (t : Int) < bg + nn → x = sw ((t : Int) / P) ws + v → K2 B P bg nn ((t + 1 : Nat) : Int) (S + v) ((((t + 1 : Nat) : Int) - 1) / P) x) ∧ (¬ (bg ≤ t ∧ (t : Int) < bg + nn) → K2 B P bg nn ((t + 1 : Nat) : Int) S ((((t + 1 : Nat) : Int) - 1) / P) x) := by
  have e : (((t + 1 : Nat) : Int) - 1) = t := by omega
  rw [e, show ((t + 1 : Nat) : Int) = (t : Int) + 1 by omega]
  have hd := div_le_next (t := t) (P := P) (by omega)
  constructor
  · rintro ⟨h1, h2⟩ rfl
    have h := hk.inn hs (by omega) h1 h2 (v := v) (by
      have := Int.ediv_mul_le ((t : Int) - 1) (show P ≠ 0 by omega)
      omega) (hm _).1 (hm _).2 hv hv1
    rw [tkn_sw hw hd] at h
    exact h
  · intro h
    exact hk.out hs hb hn h0 (by omega) (hm _).2
/-- Behind t slots: had k are the first master's slots ahead of k. -/
structure Sh0 (C : BC) (t : Nat) (s : BS) (had : Nat → Int) : Prop where
  next : s.next = t
  win : ∀ p ∈ s.ws 0, p.1 ≤ ((t : Int) - 1) / C.P 0
  most : ∀ K, 0 ≤ sw K (s.ws 0) ∧ sw K (s.ws 0) ≤ C.B 0
  k2 : ∀ bg nn : Nat, K2 (C.B 0) (C.P 0) bg nn t (had (min t (bg + nn)) - had (min t bg)) (((t : Int) - 1) / C.P 0) (sw (((t : Int) - 1) / C.P 0) (s.ws 0))
  h0 : had 0 = 0
  up : ∀ i, i < t → had i ≤ had (i + 1) ∧ had (i + 1) ≤ had i + 1
theorem Sh0.mono {C : BC} {t : Nat} {s : BS} {had : Nat → Int} (H : Sh0 C t s had) {i : Nat} : ∀ d, i + d ≤ t → had i ≤ had (i + d) ∧ had (i + d) ≤ had i + d
  | 0, _ => ⟨Int.le_refl _, by simp⟩
  | d + 1, h => by
    have h1 := H.mono (i := i) d (by omega)
    have h2 := H.up (i + d) (by omega)
    rw [show i + (d + 1) = i + d + 1 from rfl]
    omega
theorem Sh0.bd {C : BC} {t : Nat} {s : BS} {had : Nat → Int} (H : Sh0 C t s had) {i : Nat} (hi : i ≤ t) : 0 ≤ had i ∧ had i ≤ i := by
  have h := H.mono (i := 0) i (by omega)
  rw [H.h0, Nat.zero_add] at h
  omega
theorem sh0_begin {C : BC} (hC : C.OK) (hph : C.ph = 0) : Sh0 C 0 (bs0 0) (fun _ => 0) :=
  ⟨rfl, fun p hp => by simp at hp, fun K => by have := hC.share 0 (by have := hC.n1; omega); simp [sw]; omega, fun bg nn => Or.inl ⟨by omega, Or.inl (by simp)⟩, rfl, fun i hi => by omega⟩
theorem slot_sh0 {C : BC} {t : Nat} {s s' : BS} {had : Nat → Int} {want : Nat → Bool} {v f x : Int} (hC : C.OK) (hph : C.ph = 0) (ht : t < 200) (H : Sh0 C t s had) (hR : SlotR C s t true want v f s') (hx : x = if f = 0 ∧ v = 0 then 1 else 0) :
    Sh0 C (t + 1) s' (upd had (t + 1) (had t + x)) := by
  have hnx := H.next
  have hs := hC.share 0 (by have := hC.n1; omega)
  have hK : C.K 0 t = (t : Int) / C.P 0 := by unfold BC.K; rw [hph, Int.sub_zero]
  have e : (((t + 1 : Nat) : Int) - 1) = t := by omega
  have hd := div_le_next (t := t) (P := C.P 0) (by omega)
  have ho : ∀ i, i ≤ t → upd had (t + 1) (had t + x) i = had i := fun i hi => if_neg (by omega)
  have hn : upd had (t + 1) (had t + x) (t + 1) = had t + x := if_pos rfl
  have key : ∀ ws' : List (Int × Int), 0 ≤ x → x ≤ 1 → (∀ K, sw K ws' = sw K (s.ws 0) + (if (t : Int) / C.P 0 = K then x else 0)) → ∀ bg nn : Nat, K2 (C.B 0) (C.P 0) bg nn ((t + 1 : Nat) : Int) (upd had (t + 1) (had t + x) (min (t + 1) (bg + nn)) - upd had (t + 1) (had t + x) (min (t + 1) bg)) ((((t + 1 : Nat) : Int) - 1) / C.P 0) (sw ((((t + 1 : Nat) : Int) - 1) / C.P 0) ws') := by
    intro ws' x0 x1 hw bg nn
    have hm := H.mono (i := min t bg) (min t (bg + nn) - min t bg) (by omega)
    rw [show min t bg + (min t (bg + nn) - min t bg) = min t (bg + nn) by omega] at hm
    have one := shr_one (v := x) hs (by omega) (by omega) H.win H.most (H.k2 bg nn) (by omega) x0 x1 (sw ((((t + 1 : Nat) : Int) - 1) / C.P 0) ws')
    by_cases hin : (bg : Int) ≤ t ∧ (t : Int) < bg + nn
    · have h1 := one.1 hin (by rw [hw, e, if_pos rfl])
      rw [show min (t + 1) (bg + nn) = t + 1 by omega, show min (t + 1) bg = bg by omega, hn, ho bg (by omega)]
      rw [show min t (bg + nn) = t by omega, show min t bg = bg by omega] at h1
      rw [show had t + x - had bg = had t - had bg + x by omega]
      exact h1
    · have h1 := one.2 hin
      by_cases hb : t < bg
      · rw [show min (t + 1) (bg + nn) = t + 1 by omega, show min (t + 1) bg = t + 1 by omega, Int.sub_self]
        rw [show min t (bg + nn) = t by omega, show min t bg = t by omega, Int.sub_self] at h1
        exact h1
      · rw [show min (t + 1) (bg + nn) = bg + nn by omega, show min (t + 1) bg = bg by omega, ho _ (by omega), ho bg (by omega)]
        rw [show min t (bg + nn) = bg + nn by omega, show min t bg = bg by omega] at h1
        exact h1
  have hup : 0 ≤ x → x ≤ 1 → ∀ i, i < t + 1 → upd had (t + 1) (had t + x) i ≤ upd had (t + 1) (had t + x) (i + 1) ∧ upd had (t + 1) (had t + x) (i + 1) ≤ upd had (t + 1) (had t + x) i + 1 := fun x0 x1 i hi => by
    by_cases e : i = t
    · rw [e, hn, ho t (by omega)]; omega
    · rw [ho i (by omega), ho (i + 1) (by omega)]; exact H.up i (by omega)
  have hold : x = 0 → s'.next = ((t + 1 : Nat) : Int) → s'.ws 0 = s.ws 0 → Sh0 C (t + 1) s' (upd had (t + 1) (had t + x)) := fun hx hn' hw =>
    ⟨hn', fun p hp => by rw [hw] at hp; rw [e]; have := H.win p hp; omega, fun K => by rw [hw]; exact H.most K,
      key (s'.ws 0) (by omega) (by omega) (fun K => by rw [hw, hx]; simp), by rw [ho 0 (by omega)]; exact H.h0, hup (by omega) (by omega)⟩
  rcases hR with ⟨g, _⟩ | ⟨_, g, _⟩ | ⟨_, _, _, _, rfl, rfl, rfl⟩ | ⟨_, _, _, b, hbn, hbest, rfl, rfl, rfl⟩
  · omega
  · exact absurd ⟨rfl, by omega⟩ g
  · exact hold (by rw [hx, if_neg (by omega)]) (by show (t : Int) + 1 = _; omega) rfl
  · by_cases hb : b = 0
    · subst hb
      have hq := fst_q hbest
      simp only [Bool.and_eq_true] at hq
      have hmb := hq.2
      unfold mayB at hmb
      simp only [Bool.and_eq_true, decide_eq_true_eq] at hmb
      have hleft : sw ((t : Int) / C.P 0) (s.ws 0) < C.B 0 := by have := hmb.2; unfold BC.left at this; rw [hK] at this; omega
      have hx1 : x = 1 := by rw [hx, if_pos ⟨rfl, by simp⟩]
      have hws : ∀ K, sw K (upd s.ws 0 (s.ws 0 ++ [(C.K 0 t, 1)]) 0) = sw K (s.ws 0) + (if (t : Int) / C.P 0 = K then x else 0) := fun K => by
        unfold upd
        rw [if_pos rfl, sw_app, hK, hx1]
      refine ⟨by show (t : Int) + 1 = _; omega, fun p hp => ?_, fun K => ?_, key _ (by omega) (by omega) hws, by rw [ho 0 (by omega)]; exact H.h0, hup (by omega) (by omega)⟩
      · rw [e]
        have hp : p ∈ upd s.ws 0 (s.ws 0 ++ [(C.K 0 t, 1)]) 0 := hp
        unfold upd at hp
        rw [if_pos rfl] at hp
        rcases List.mem_append.1 hp with hp | hp
        · have := H.win p hp; omega
        · simp at hp; subst hp; dsimp only; rw [hK]; exact Int.le_refl _
      · show 0 ≤ sw K (upd s.ws 0 (s.ws 0 ++ [(C.K 0 t, 1)]) 0) ∧ sw K (upd s.ws 0 (s.ws 0 ++ [(C.K 0 t, 1)]) 0) ≤ C.B 0
        rw [hws K]
        have := H.most K
        split
        · rename_i g; subst g; omega
        · omega
    · exact hold (by rw [hx, if_neg (by omega)]) (by show (t : Int) + 1 = _; omega) (by show upd s.ws b _ 0 = _; exact if_neg (by omega))
theorem Sh0.fin {C : BC} {t : Nat} {s : BS} {had : Nat → Int} (hC : C.OK) (H : Sh0 C t s had) {i j : Nat} (hij : i ≤ j) (hj : j ≤ t) : had j - had i ≤ mst (C.B 0) (C.P 0) ((j : Int) - i) := by
  have h := H.k2 i (j - i)
  rw [show min t (i + (j - i)) = j by omega, show min t i = i by omega, show ((j - i : Nat) : Int) = (j : Int) - i by omega] at h
  exact h.fin (hC.share 0 (by have := hC.n1; omega)) (by omega) (by omega) (H.most _).2
end bs
/-! ### The steps of a slot keep the requests' pieces, and the count of bytes. -/
def HQ (D : Dv) : Prop := ∀ k, k < D.nx → (D.rq k).frm = 2 ∧ (D.rq k).len ≤ 5
theorem HQ.like {D D' : Dv} (h : HQ D) (hn : D'.nx = D.nx) (hr : ∀ k, (D'.rq k).same (D.rq k)) : HQ D' := fun k hk => by
  rw [hn] at hk
  rw [(hr k).frm, (hr k).len]
  exact h k hk
theorem BySt.keep {st st' : Nat → po.Buf} {h : Nat} (H : BySt st h) (K : KeepS 4 st st') : BySt st' h := by
  obtain ⟨h1, h2⟩ := H
  refine ⟨fun i hi => by rw [(K i hi).1]; exact h1 i hi, ?_⟩
  rw [(K 0 (by omega)).1, (K 1 (by omega)).1, (K 2 (by omega)).1, (K 3 (by omega)).1]
  exact h2
theorem rp_nx (D : Dv) (f : Int) (g' : ri.RSt) (k : Nat) (stt : Int) (q' : od.OSt) (st' : Nat → po.Buf) : (D.rpD f g' k stt q' st').nx = D.nx := by
  unfold Dv.rpD
  by_cases e : f = 0
  · rw [if_pos e]
    by_cases e2 : (D.rq k).vo = true
    · rw [if_pos e2]
    · rw [if_neg e2]; rfl
  · rw [if_neg e]
theorem rp_same (D : Dv) (f : Int) (g' : ri.RSt) (k : Nat) (stt : Int) (q' : od.OSt) (st' : Nat → po.Buf) (j : Nat) : ((D.rpD f g' k stt q' st').rq j).same (D.rq j) := by
  unfold Dv.rpD
  by_cases e : f = 0
  · rw [if_pos e]
    by_cases e2 : (D.rq k).vo = true
    · rw [if_pos e2]; exact Rq.same.rfl' _
    · rw [if_neg e2]
      show (updR D.rq k _ j).same (D.rq j)
      exact updR_same (r := { D.rq k with vo := true }) ⟨rfl, rfl, rfl, rfl, rfl, rfl, rfl, rfl⟩ j
  · rw [if_neg e]; exact Rq.same.rfl' _
theorem fin_same (D : Dv) (f : Int) (g' : ri.RSt) (k : Nat) (bad : Bool) : (D.finD f g' k bad).nx = D.nx ∧ (D.finD f g' k bad).st = D.st ∧ ∀ j, ((D.finD f g' k bad).rq j).same (D.rq j) := by
  unfold Dv.finD
  by_cases e : f = 0
  · rw [if_pos e]; exact ⟨rfl, rfl, fun j => updR_same (r := { D.rq k with fi := true, bd := bad }) ⟨rfl, rfl, rfl, rfl, rfl, rfl, rfl, rfl⟩ j⟩
  · rw [if_neg e]; exact ⟨rfl, rfl, fun j => Rq.same.rfl' _⟩
theorem tk_same (D : Dv) (g' : ri.RSt) (k : Nat) (st' : Nat → po.Buf) : (D.tkD 0 g' k st').nx = D.nx ∧ (D.tkD 0 g' k st').st = (if (D.rq k).vo then D.st else st') ∧ ∀ j, ((D.tkD 0 g' k st').rq j).same (D.rq j) := by
  unfold Dv.tkD
  rw [if_pos rfl]
  exact ⟨rfl, rfl, fun j => updR_same (r := { D.rq k with tk := true }) ⟨rfl, rfl, rfl, rfl, rfl, rfl, rfl, rfl⟩ j⟩
theorem FinE.keeps {D D' : Dv} {no stt : Int} {bad : Bool} {h : Nat} (F : FinE D no stt bad D') (hq : HQ D) (hb : BySt D.st h) : HQ D' ∧ BySt D'.st h ∧ D'.nx = D.nx := by
  obtain ⟨f, g', k, -, -, rfl⟩ := F
  obtain ⟨h1, h2, h3⟩ := fin_same D f g' k bad
  exact ⟨hq.like h1 h3, by rw [h2]; exact hb, h1⟩
theorem TkE.keeps {D D' : Dv} {m m' : Mv} {h : Nat} (T : TkE 4 D m D' m') (hq : HQ D) (hb : BySt D.st h) : HQ D' ∧ BySt D'.st h ∧ D'.nx = D.nx := by
  rcases T with ⟨-, rfl, -⟩ | ⟨-, -, k, st', -, -, hK, -, rfl⟩
  · exact ⟨hq, hb, rfl⟩
  · obtain ⟨h1, h2, h3⟩ := tk_same D ⟨D.g.put, D.g.taken + 1, D.g.reaped, D.g.D⟩ k st'
    refine ⟨hq.like h1 h3, ?_, h1⟩
    rw [h2]
    cases (D.rq k).vo with
    | true => exact hb
    | false => exact hb.keep hK
theorem SlE.steal {n : Nat} {C : bs.BC} {x now v f : Int} {l : List Int} {D D2 : Dv} {m m2 : Mv} {s s' : bs.BS} {h : Nat} (S : SlE 4 2 1 C 0 x now l D m s v f D2 m2 s') (hq : HQ D) (hb : BySt D.st h) :
    HQ D2 ∧ D2.nx = D.nx ∧ BySt D2.st (h + (if f = 0 ∧ v = 0 then 1 else 0)) := by
  obtain ⟨D1, m1, h1, hI1, hm1, -, h2⟩ := S
  obtain ⟨q1, b1, n1⟩ : HQ D1 ∧ BySt D1.st h ∧ D1.nx = D.nx := by
    rcases h1 with ⟨-, h1⟩ | ⟨-, rfl, -⟩
    · exact h1.keeps hq hb
    · exact ⟨hq, hb, rfl⟩
  rcases h2 with ⟨-, rfl, -⟩ | ⟨⟨e1, e2, -⟩, cw, st', hP, h2⟩
  · refine ⟨q1, n1, ?_⟩
    split
    · exact b1.up
    · exact b1
  · rw [if_pos ⟨e1, e2⟩]
    have b2 : BySt ({ D1 with st := st' } : Dv).st (h + 1) := wr_steal b1 (fun k hk => by
      obtain ⟨q, hq', -, -⟩ := hI1.c.psl _ k hk.1
      have hk1 := hk.1
      rw [hq'] at hk1
      exact q1 k (hI1.c.pk q k hk1).1) hP
    have q2 : HQ { D1 with st := st' } := q1
    rcases h2 with ⟨-, F, -⟩ | ⟨-, -, rfl, -⟩ | ⟨-, -, F, -⟩
    · obtain ⟨a1, a2, a3⟩ := F.keeps q2 b2
      exact ⟨a1, a3.trans n1, a2⟩
    · exact ⟨q2, n1, b2⟩
    · obtain ⟨a1, a2, a3⟩ := F.keeps q2 b2
      exact ⟨a1, a3.trans n1, a2⟩
theorem HQ.newR {D : Dv} {q : od.OSt} {b : Bk} {st' : Nat → po.Buf} {i : Int} {r : Rq} (h : HQ D) (hf : r.frm = 2) (hl : r.len ≤ 5) : HQ (Dv.newR { D with q := q, b := b, st := st' } i r) := fun k hk => by
  have hk : k < D.nx + 1 := hk
  show (updR D.rq D.nx r k).frm = 2 ∧ (updR D.rq D.nx r k).len ≤ 5
  by_cases e : k = D.nx
  · rw [e, updR_self]; exact ⟨hf, hl⟩
  · rw [updR_ne _ _ e]; exact h k (by omega)
theorem hq_new : HQ (Dv.new (egS 4) 5) := fun k hk => absurd (show k < 0 from hk) (by omega)
theorem by_new : BySt (Dv.new (egS 4) 5).st 0 := by
  have e : ∀ i, i < 4 → ((Dv.new (egS 4) 5).st i).bs = [0, 0, 0, 0, 0, 0, 0, 0] := fun i hi => (egS_len 4 i hi).2.2.2
  refine ⟨fun i hi => ?_, ?_⟩
  · rw [e i hi]
    refine ⟨rfl, fun j hj _ => ?_⟩
    rcases (show j = 0 ∨ j = 1 ∨ j = 2 ∨ j = 3 ∨ j = 4 ∨ j = 5 ∨ j = 6 ∨ j = 7 by omega) with rfl | rfl | rfl | rfl | rfl | rfl | rfl | rfl <;> rfl
  · rw [e 0 (by omega), e 1 (by omega), e 2 (by omega), e 3 (by omega)]
    decide
/-- Each buffer is somebody's, and of the first generation. -/
def GO (st : Nat → po.Buf) : Prop := ∀ i, i < 4 → (st i).gen = 1 ∧ (st i).owner ≠ 0
theorem GO.keep {st st' : Nat → po.Buf} (H : GO st) (K : KeepS 4 st st') : GO st' := fun i hi => by
  obtain ⟨-, k2, k3, -⟩ := K i hi
  exact ⟨by rw [k2]; exact (H i hi).1, fun e => (H i hi).2 (k3.1 e)⟩
theorem go_new : GO (Dv.new (egS 4) 5).st := fun i hi => ⟨(egS_len 4 i hi).2.1, by
  have h := (egS_len 4 i hi).2.2.1
  rw [if_pos hi] at h
  show (egS 4 i).owner ≠ 0
  omega⟩
theorem TkE.go {D D' : Dv} {m m' : Mv} (T : TkE 4 D m D' m') (H : GO D.st) : GO D'.st := by
  rcases T with ⟨-, rfl, -⟩ | ⟨-, -, k, st', -, -, hK, -, rfl⟩
  · exact H
  · rw [(tk_same D ⟨D.g.put, D.g.taken + 1, D.g.reaped, D.g.D⟩ k st').2.1]
    split
    · exact H
    · exact H.keep hK
theorem SlE.go {C : bs.BC} {x now v f : Int} {l : List Int} {D D2 : Dv} {m m2 : Mv} {s s' : bs.BS} (S : SlE 4 2 1 C 0 x now l D m s v f D2 m2 s') (H : GO D.st) : GO D2.st := by
  obtain ⟨D1, m1, h1, hI1, hm1, -, h2⟩ := S
  have g1 : GO D1.st := by
    rcases h1 with ⟨-, h1⟩ | ⟨-, rfl, -⟩
    · exact h1.go H
    · exact H
  rcases h2 with ⟨-, rfl, -⟩ | ⟨-, cw, st', hP, h2⟩
  · exact g1
  · obtain ⟨-, hk, -⟩ := hI1.wr hP
    have g2 : GO ({ D1 with st := st' } : Dv).st := fun i hi => ⟨by show (st' i).gen = 1; rw [(hk i hi).2.1]; exact (g1 i hi).1, by show (st' i).owner ≠ 0; rw [(hk i hi).1]; exact (g1 i hi).2⟩
    rcases h2 with ⟨-, ⟨f', g', k, -, -, rfl⟩, -⟩ | ⟨-, -, rfl, -⟩ | ⟨-, -, ⟨f', g', k, -, -, rfl⟩, -⟩
    · rw [(fin_same _ f' g' k true).2.1]; exact g2
    · exact g2
    · rw [(fin_same _ f' g' k false).2.1]; exact g2
theorem GO.reads {st : Nat → po.Buf} (H : GO st) {i : Nat} (hi : i < 4) (h8 : (st i).bs.length = 8) : po.ReadP 4 st (i : Int) 1 0 8 (st i).bs 0 :=
  Or.inr ⟨i, hi, rfl, (H i hi).2, (H i hi).1, Or.inr ⟨by rw [h8]; refine ⟨by omega, ?_, by omega, ?_⟩ <;> decide, rfl, by
    show (st i).bs = ((st i).bs.drop 0).take 8
    rw [List.drop_zero, List.take_of_length_le (by omega)]⟩⟩
/-! ### Who else wants the bus. -/
/-- The numbers from 1 below k that are meant. -/
def il1 (y : Int) (k : Nat) : List Nat := bs.il (fun i => decide (1 ≤ i) && bs.bitB y i) k
theorem il1_one (y : Int) : il1 y 1 = [] := by unfold il1; rw [bs.il_no rfl]; rfl
theorem il1_yes {y : Int} {k : Nat} (h1 : 1 ≤ k) (h : bs.bitB y k = true) : il1 y (k + 1) = il1 y k ++ [k] := bs.il_yes (by rw [h, decide_eq_true h1]; rfl)
theorem il1_no {y : Int} {k : Nat} (h : bs.bitB y k = false) : il1 y (k + 1) = il1 y k := bs.il_no (by rw [h, Bool.and_false])
theorem il1_len (y : Int) (k : Nat) : (il1 y k).length ≤ k := bs.il_len _ k
def ili (y : Int) (k : Nat) : List Int := (il1 y k).map fun (i : Nat) => (i : Int)
theorem ili_ok {y : Int} {n : Nat} (hn : 1 ≤ n) (m : Mv) : bs.okB (wantsE (ili y n) m 0).length (fE (wantsE (ili y n) m 0)) n = true := by
  have h1 : ∀ x ∈ ili y n, 0 ≤ x ∧ x < n := fun x hx => by
    obtain ⟨i, hi, rfl⟩ := List.mem_map.1 hx
    have := (bs.mem_il.1 hi).1
    omega
  have h2 : ∀ x ∈ wantsE (ili y n) m 0, 0 ≤ x ∧ x < n := fun x hx => by
    unfold wantsE at hx
    split at hx
    · rcases List.mem_append.1 hx with hx | hx
      · exact h1 x hx
      · simp at hx; omega
    · exact h1 x hx
  refine decide_eq_true fun j hj => ?_
  have := h2 _ (List.getElem_mem hj)
  unfold fE
  rw [List.getD_eq_getElem?_getD, List.getElem?_eq_getElem hj]
  exact this
theorem SlE.sh0 {C : bs.BC} {x v f z y : Int} {t n : Nat} {D D2 : Dv} {m m2 : Mv} {s s' : bs.BS} {had : Nat → Int} (S : SlE 4 2 1 C 0 x t (ili y n) D m s v f D2 m2 s') (hC : C.OK) (hn : C.n = n) (hph : C.ph = 0) (ht : t < 200) (H : bs.Sh0 C t s had) (so : s.OK C t) (hz : z = if f = 0 ∧ v = 0 then 1 else 0) :
    bs.Sh0 C (t + 1) s' (bs.upd had (t + 1) (had t + z)) ∧ s'.OK C (t + 1) := by
  obtain ⟨D1, m1, -, -, -, hR, -⟩ := S
  have hn2 := hR.next so
  rw [hn, ili_ok (by have := hC.n1; omega) m1] at hR
  exact ⟨bs.slot_sh0 hC hph ht H hR hz, hn2⟩
end
section
set_option linter.unusedVariables false
set_option maxRecDepth 100000
set_option maxHeartbeats 1000000
/-- Within a slot: h bytes are written at the most. -/
structure MidE (t : Nat) (D : Dv) (h : Nat) : Prop where
  I : DvI 4 2 1 D
  hq : HQ D
  by_ : BySt D.st h
  go : GO D.st
  nx : D.nx ≤ t + 1
structure StE (C : bs.BC) (t : Nat) (D : Dv) (m : Mv) (s : bs.BS) (had : Nat → Int) : Prop where
  I : DvI 4 2 1 D
  ok : m.ok
  so : s.OK C t
  sh : bs.Sh0 C t s had
  hq : HQ D
  by_ : BySt D.st (had t).toNat
  go : GO D.st
  nx : D.nx ≤ t
theorem StE.begin {C : bs.BC} (hC : C.OK) (hph : C.ph = 0) : StE C 0 (Dv.new (egS 4) 5) idleV (bs.bs0 0) (fun _ => 0) :=
  ⟨egI, idle_ok, hph ▸ bs.bs0_ok hC, bs.sh0_begin hC hph, hq_new, by_new, go_new, Nat.le_refl 0⟩
theorem StE.mid {C : bs.BC} {t : Nat} {D : Dv} {m : Mv} {s : bs.BS} {had : Nat → Int} (h : StE C t D m s had) : MidE t D (had t).toNat := ⟨h.I, h.hq, h.by_, h.go, Nat.le_succ_of_le h.nx⟩
theorem StE.sub {C : bs.BC} {t : Nat} {D D' : Dv} {m : Mv} {s : bs.BS} {had : Nat → Int} {r : Rq} {f : Int} (h : StE C t D m s had) (hf : r.frm = 2) (hl : r.len ≤ 5)
    (hS : (f ≠ 0 ∧ D' = D) ∨ (f = 0 ∧ opnA D.b r.id r.dead = 0 ∧ ¬ D.posted r.id ∧ ∃ st', D' = Dv.newR { D with q := { D.q with l := D.q.l ++ [r.wt] }, b := D.b.opn r.id r.dead, st := st' } r.id r ∧ KeepS 4 D.st st' ∧ DvI 4 2 1 D')) : MidE t D' (had t).toNat := by
  rcases hS with ⟨-, rfl⟩ | ⟨-, -, -, st', rfl, hK, hI⟩
  · exact h.mid
  · exact ⟨hI, h.hq.newR hf hl, h.by_.keep hK, h.go.keep hK, Nat.succ_le_succ h.nx⟩
theorem MidE.start {t h : Nat} {D D' : Dv} (H : MidE t D h) (hI : DvI 4 2 1 D') (h1 : D'.nx = D.nx) (h2 : D'.rq = D.rq) (h3 : D'.st = D.st) : MidE t D' h :=
  ⟨hI, H.hq.like h1 (fun k => by rw [h2]; exact Rq.same.rfl' _), h3 ▸ H.by_, h3 ▸ H.go, h1 ▸ H.nx⟩
theorem MidE.reap {t h : Nat} {D : Dv} {f stt : Int} {g' : ri.RSt} {k : Nat} {q' : od.OSt} {st' : Nat → po.Buf} (H : MidE t D h) (hI : DvI 4 2 1 (D.rpD f g' k stt q' st')) (hK : KeepS 4 D.st (D.rpD f g' k stt q' st').st) : MidE t (D.rpD f g' k stt q' st') h :=
  ⟨hI, H.hq.like (rp_nx _ _ _ _ _ _ _) (fun j => rp_same _ _ _ _ _ _ _ j), H.by_.keep hK, H.go.keep hK, (rp_nx D f g' k stt q' st') ▸ H.nx⟩
theorem MidE.slot {C : bs.BC} {v f y : Int} {t n : Nat} {D D2 : Dv} {m m2 : Mv} {s s' : bs.BS} {had : Nat → Int} {x : Int} (H : MidE t D (had t).toNat) (S : SlE 4 2 1 C 0 255 t (ili y n) D m s v f D2 m2 s') (hC : C.OK) (hn : C.n = n) (hph : C.ph = 0) (ht : t < 200) (sh : bs.Sh0 C t s had) (so : s.OK C t) (hI : DvI 4 2 1 D2) (hm : m2.ok) (hx : x = if f = 0 ∧ v = 0 then 1 else 0) :
    StE C (t + 1) D2 m2 s' (bs.upd had (t + 1) (had t + x)) := by
  obtain ⟨h1, h2⟩ := S.sh0 hC hn hph ht sh so hx
  obtain ⟨q1, q2, q3⟩ := S.steal (n := n) H.hq H.by_
  refine ⟨hI, hm, h2, h1, q1, ?_, S.go H.go, q2 ▸ H.nx⟩
  have hb := sh.bd (Nat.le_refl t)
  have e : (bs.upd had (t + 1) (had t + x) (t + 1)).toNat = (had t).toNat + (if f = 0 ∧ v = 0 then 1 else 0) := by
    rw [show bs.upd had (t + 1) (had t + x) (t + 1) = had t + x from if_pos rfl, hx]
    split <;> omega
  rw [e]
  exact q3
/-- Written bytes, buffer by buffer, byte by byte. -/
def nzA (st : Nat → po.Buf) : Nat → Nat
  | 0 => 0
  | k + 1 => nzA st k + nz (st k).bs
theorem nz_step {l : List Int} {i : Nat} {x : Int} (h : l[i]? = some x) : nz (l.take (i + 1)) = nz (l.take i) + (if x = 0 then 0 else 1) := by
  obtain ⟨hi, e⟩ := List.getElem?_eq_some_iff.1 h
  rw [List.take_succ_eq_append_getElem hi, nz_app, e]
  congr 1
  unfold nz
  by_cases h : x = 0
  · simp [h]
  · simp [h]
theorem nzA_all {st : Nat → po.Buf} {h : Nat} (H : BySt st h) : nzA st 4 ≤ h := by
  have := H.2
  show 0 + nz (st 0).bs + nz (st 1).bs + nz (st 2).bs + nz (st 3).bs ≤ h
  omega
theorem nz_le (l : List Int) : nz l ≤ l.length := List.length_filter_le _ _
theorem nzA_le {st : Nat → po.Buf} {h : Nat} (H : BySt st h) : ∀ k, k ≤ 4 → nzA st k ≤ 8 * k
  | 0, _ => Nat.le_refl _
  | k + 1, hk => by
    have h1 := nzA_le H k (by omega)
    have h2 := nz_le (st k).bs
    rw [(H.1 k (by omega)).1] at h2
    show nzA st k + nz (st k).bs ≤ _
    omega
theorem ili_yes {y : Int} {k : Nat} (h1 : 1 ≤ k) (h : bs.bitB y k = true) : ili y (k + 1) = ili y k ++ [(k : Int)] := by unfold ili; rw [il1_yes h1 h, List.map_append]; rfl
theorem ili_no {y : Int} {k : Nat} (h : bs.bitB y k = false) : ili y (k + 1) = ili y k := by unfold ili; rw [il1_no h]
theorem ili_one (y : Int) : ili y 1 = [] := by unfold ili; rw [il1_one]; rfl
theorem ili_len (y : Int) (k : Nat) : (ili y k).length ≤ k := by unfold ili; rw [List.length_map]; exact il1_len y k
end
end Go.Proofs.YtdjhpdacglojaaaGreat
