/-
  For all masters, wants and spans BusShares answers true, and changes nothing: no master has more slots in any span than its share lets, nor more in a row than its burst. No condition.
-/
import Derived.Test.YtabocojmobbpaaaRows
import Derived.Test.YtabocojmobbpaaaFr
import Derived.Test.YtabocojmobbpaaaBusW
import Derived.Test.YtabocojmobbpaaaShareR
import Derived.Test.YtabocojmobbpaaaOpen
import Derived.LoopTactic
import Derived.IntWalk
namespace Go.Proofs.Ytabocojmobbpaaa.busShares
open Go.ChangeShapes Go.WideShapes Go.ChangeAt Go.RowKit
set_option linter.unusedVariables false
theorem own : ownKnob Try.prog.godebug = none := by kernel_rfl
theorem laid : laidOutB Try.prog = true := by kernel_rfl
set_option maxRecDepth 100000
set_option maxHeartbeats 1000000
/-- What is known of the sum at time t, W the meter's window, T what was taken in it. -/
def J (B P bg t S W T : Int) : Prop := S = 0 ∨ (bg / P ≤ W ∧ W * P ≤ t - 1 ∧ S ≤ t - bg ∧ S ≤ B * (W - bg / P) + T)
theorem J.skip {B P bg t S W T : Int} (h : J B P bg t S W T) : J B P bg (t + 1) S W T := by
  rcases h with h | ⟨h1, h2, h3, h4⟩
  · exact Or.inl h
  · exact Or.inr ⟨h1, by omega, by omega, h4⟩
theorem win_of {P t W : Int} (hP : 1 ≤ P) (h : W * P ≤ t) : W ≤ t / P := (Int.le_ediv_iff_mul_le (by omega)).2 h
theorem J.more {B P bg t S W T v : Int} (h : J B P bg t S W T) (hP : 1 ≤ P) (hB : 0 ≤ B) (ht : 0 ≤ t) (hbt : bg ≤ t) (hW : W * P ≤ t) (hT : 0 ≤ T) (hTB : T ≤ B) (hv : 0 ≤ v) (hv1 : v ≤ 1) : J B P bg (t + 1) (S + v) (t / P) (tkn W T (t / P) + v) := by
  have hK : t / P * P ≤ t := Int.ediv_mul_le _ (by omega)
  have hb : bg / P ≤ t / P := Int.ediv_le_ediv (by omega) hbt
  have hWK := win_of hP hW
  by_cases hz : S + v = 0
  · exact Or.inl hz
  refine Or.inr ⟨hb, by omega, ?_, ?_⟩
  · rcases h with h | ⟨_, _, h3, _⟩ <;> omega
  · have hm : 0 ≤ B * (t / P - bg / P) := Int.mul_nonneg hB (by omega)
    unfold tkn
    rcases h with h | ⟨h1, h2, h3, h4⟩
    · subst h; split <;> omega
    · by_cases e : W = t / P
      · rw [if_pos e, ← e]; omega
      · rw [if_neg e]
        have : B * (W - bg / P) + B ≤ B * (t / P - bg / P) := by
          have h5 : B * (W - bg / P + 1) ≤ B * (t / P - bg / P) := Int.mul_le_mul_of_nonneg_left (by omega) hB
          rw [Int.mul_add] at h5; omega
        omega
theorem J.out {B P bg t S W T W' T' : Int} (h : J B P bg t S W T) (h0 : 0 ≤ S) (hbt : t < bg) : J B P bg (t + 1) S W' T' := by
  rcases h with h | ⟨_, _, h3, _⟩
  · exact Or.inl h
  · omega
theorem J.fin {B P bg n t S W T : Int} (h : J B P bg t S W T) (hs : 1 ≤ B ∧ B ≤ P ∧ P ≤ 1099511627776) (hb : 0 ≤ bg) (hn : 0 ≤ n) (ht : t ≤ bg + n) (hTB : T ≤ B) : S ≤ mst B P n := by
  have hu := tUp_nonneg hn (show 1 ≤ P by omega)
  have hm : 0 ≤ B * (tUp n P + 1) := Int.mul_nonneg (by omega) (by omega)
  rcases h with h | ⟨h1, h2, h3, h4⟩
  · subst h; unfold mst mn; split <;> omega
  · have he := tUp_enough (n := n) (show 1 ≤ P by omega)
    obtain ⟨_, _, _, _, h8⟩ := win_le (t := bg) (p := 0) (d := P) hb (by omega)
    rw [Int.sub_zero] at h8
    have hW : W ≤ bg / P + tUp n P := by
      have h5 : W * P < (bg / P + tUp n P + 1) * P := by rw [Int.add_mul, Int.add_mul]; omega
      have := Int.lt_of_mul_lt_mul_right h5 (by omega); omega
    have h6 : B * (W - bg / P + 1) ≤ B * (tUp n P + 1) := Int.mul_le_mul_of_nonneg_left (by omega) (by omega)
    rw [Int.mul_add] at h6
    unfold mst mn; split <;> omega
/-- The sum, ahead of the span's end and behind it. -/
def K2 (B P bg n t S W T : Int) : Prop := (t ≤ bg + n ∧ J B P bg t S W T) ∨ (bg + n < t ∧ S ≤ mst B P n)
theorem K2.skip {B P bg n t S W T : Int} (h : K2 B P bg n t S W T) (hs : 1 ≤ B ∧ B ≤ P ∧ P ≤ 1099511627776) (hb : 0 ≤ bg) (hn : 0 ≤ n) (hTB : T ≤ B) : K2 B P bg n (t + 1) S W T := by
  rcases h with ⟨h1, h2⟩ | ⟨h1, h2⟩
  · by_cases e : t + 1 ≤ bg + n
    · exact Or.inl ⟨e, h2.skip⟩
    · exact Or.inr ⟨by omega, h2.fin hs hb hn h1 hTB⟩
  · exact Or.inr ⟨by omega, h2⟩
theorem K2.inn {B P bg n t S W T v : Int} (h : K2 B P bg n t S W T) (hs : 1 ≤ B ∧ B ≤ P ∧ P ≤ 1099511627776) (ht : 0 ≤ t) (hb : bg ≤ t) (ht2 : t < bg + n) (hW : W * P ≤ t) (hT : 0 ≤ T) (hTB : T ≤ B) (hv : 0 ≤ v) (hv1 : v ≤ 1) : K2 B P bg n (t + 1) (S + v) (t / P) (tkn W T (t / P) + v) := by
  rcases h with ⟨h1, h2⟩ | ⟨h1, h2⟩
  · exact Or.inl ⟨by omega, h2.more (by omega) (by omega) ht hb hW hT hTB hv hv1⟩
  · omega
theorem K2.out {B P bg n t S W T W' T' : Int} (h : K2 B P bg n t S W T) (hs : 1 ≤ B ∧ B ≤ P ∧ P ≤ 1099511627776) (hb : 0 ≤ bg) (hn : 0 ≤ n) (h0 : 0 ≤ S) (ho : t < bg ∨ bg + n ≤ t) (hTB : T ≤ B) : K2 B P bg n (t + 1) S W' T' := by
  rcases h with ⟨h1, h2⟩ | ⟨h1, h2⟩
  · rcases ho with ho | ho
    · exact Or.inl ⟨by omega, h2.out h0 ho⟩
    · exact Or.inr ⟨by omega, h2.fin hs hb hn h1 hTB⟩
  · exact Or.inr ⟨by omega, h2⟩
theorem K2.fin {B P bg n t S W T : Int} (h : K2 B P bg n t S W T) (hs : 1 ≤ B ∧ B ≤ P ∧ P ≤ 1099511627776) (hb : 0 ≤ bg) (hn : 0 ≤ n) (hTB : T ≤ B) : S ≤ mst B P n := by
  rcases h with ⟨h1, h2⟩ | ⟨h1, h2⟩
  · exact h2.fin hs hb hn h1 hTB
  · exact h2
set_option maxRecDepth 100000
set_option maxHeartbeats 1000000
attribute [local go_sem ↓] Go.wp_at_zero Go.wp_at_succ

/-- Behind t ticks: what each has had in the span. -/
structure Shr (C : BC) (bg nn : Int) (t : Nat) (s : BS) (h : Nat → Int) : Prop where
  next : s.next = 7 + t
  win : ∀ i, i < C.n → ∀ p ∈ s.ws i, p.1 ≤ ((t : Int) - 1) / C.P i
  most : ∀ i, i < C.n → ∀ K, 0 ≤ sw K (s.ws i) ∧ sw K (s.ws i) ≤ C.B i
  k2 : ∀ i, i < C.n → K2 (C.B i) (C.P i) bg nn t (h i) (((t : Int) - 1) / C.P i) (sw (((t : Int) - 1) / C.P i) (s.ws i))
  h0 : ∀ i, i < C.n → 0 ≤ h i ∧ h i ≤ t
theorem shr_begin {C : BC} {bg nn : Int} (hC : C.OK) (hb : 0 ≤ bg) (hn : 0 ≤ nn) : Shr C bg nn 0 (bs0 7) (fun _ => 0) :=
  ⟨rfl, fun i hi p hp => by simp at hp, fun i hi K => by have := hC.share i hi; simp [sw]; omega, fun i hi => Or.inl ⟨by simp; omega, Or.inl rfl⟩, fun i hi => ⟨by omega, by simp⟩⟩
theorem div_le_next {t P : Int} (hP : 1 ≤ P) : (t - 1) / P ≤ t / P := Int.ediv_le_ediv (by omega) (by omega)
/-- One master's part of a tick: it took v. -/
theorem shr_one {B P bg nn S : Int} {t : Nat} {ws : List (Int × Int)} {v : Int} (hs : 1 ≤ B ∧ B ≤ P ∧ P ≤ 1099511627776) (hb : 0 ≤ bg) (hn : 0 ≤ nn) (hw : ∀ p ∈ ws, p.1 ≤ ((t : Int) - 1) / P) (hm : ∀ K, 0 ≤ sw K ws ∧ sw K ws ≤ B) (hk : K2 B P bg nn t S (((t : Int) - 1) / P) (sw (((t : Int) - 1) / P) ws)) (h0 : 0 ≤ S) (hv : 0 ≤ v) (hv1 : v ≤ 1) (x : Int) :
    (bg ≤ t ∧ (t : Int) < bg + nn → x = sw ((t : Int) / P) ws + v → K2 B P bg nn ((t + 1 : Nat) : Int) (S + v) ((((t + 1 : Nat) : Int) - 1) / P) x) ∧ (¬ (bg ≤ t ∧ (t : Int) < bg + nn) → K2 B P bg nn ((t + 1 : Nat) : Int) S ((((t + 1 : Nat) : Int) - 1) / P) x) := by
  have e : (((t + 1 : Nat) : Int) - 1) = t := by omega
  rw [e, show ((t + 1 : Nat) : Int) = (t : Int) + 1 by omega]
  have hd := div_le_next (t := t) (P := P) (by omega)
  constructor
  · rintro ⟨h1, h2⟩ rfl
    have h := hk.inn hs (by omega) h1 h2 (v := v) (by
      have := Int.ediv_mul_le ((t : Int) - 1) (show P ≠ 0 by omega)
      omega) (hm _).1 (hm _).2 hv hv1
    rw [tkn_sw hw hd] at h
    exact h
  · intro h
    exact hk.out hs hb hn h0 (by omega) (hm _).2
theorem slot_shr {C : BC} {bg nn : Int} {t : Nat} {s s' : BS} {h : Nat → Int} {want : Nat → Bool} {v f : Int} (hC : C.OK) (hph : C.ph = 7) (hb : 0 ≤ bg) (hn : 0 ≤ nn) (ht : t < 200) (hr0 : 0 ≤ s.row) (H : Shr C bg nn t s h) (hR : SlotR C s (7 + t) true want v f s') :
    (f = 5 ∧ s'.who = -1 ∧ s'.row = 0 ∧ Shr C bg nn (t + 1) s' h) ∨
    (∃ b : Nat, b < C.n ∧ f = 0 ∧ v = b ∧ want b = true ∧ s'.who = b ∧ s'.row = (if s.who = b then s.row else 0) + 1 ∧ (0 < C.burst b → s'.row ≤ C.burst b) ∧
      (bg ≤ t ∧ (t : Int) < bg + nn → Shr C bg nn (t + 1) s' (upd h b (h b + 1))) ∧ (¬ (bg ≤ t ∧ (t : Int) < bg + nn) → Shr C bg nn (t + 1) s' h)) := by
  have hnx := H.next
  have hw1 : s.who1 (7 + t) = s.who := if_neg (by omega)
  have hr1 : s.row1 (7 + t) = s.row := if_neg (by omega)
  have hK : ∀ i, C.K i (7 + t) = (t : Int) / C.P i := fun i => by unfold BC.K; rw [hph]; congr 1; omega
  have e : (((t + 1 : Nat) : Int) - 1) = t := by omega
  rcases hR with ⟨g, _⟩ | ⟨_, g, _⟩ | ⟨_, _, _, _, _, rfl, rfl⟩ | ⟨_, _, _, b, hbn, hbest, rfl, rfl, rfl⟩
  · omega
  · exact absurd ⟨rfl, by omega⟩ g
  · left
    refine ⟨rfl, rfl, rfl, ⟨by show (7 : Int) + t + 1 = _; omega, fun i hi p hp => by rw [e]; have := H.win i hi p hp; have := div_le_next (t := t) (P := C.P i) (by have := hC.share i hi; omega); omega, H.most, fun i hi => ?_, fun i hi => by have := H.h0 i hi; omega⟩⟩
    have hh := shr_one (v := 0) (hC.share i hi) hb hn (H.win i hi) (H.most i hi) (H.k2 i hi) (H.h0 i hi).1 (by omega) (by omega) (sw ((((t + 1 : Nat) : Int) - 1) / C.P i) (s.ws i))
    by_cases hin : bg ≤ t ∧ (t : Int) < bg + nn
    · have := hh.1 hin (by rw [e]; omega)
      simpa using this
    · exact hh.2 hin
  · right
    have hq := fst_q hbest
    simp only [Bool.and_eq_true] at hq
    have hmb := hq.2
    unfold mayB at hmb
    rw [hw1, hr1] at hmb
    simp only [Bool.and_eq_true, Bool.not_eq_true', decide_eq_true_eq, Bool.and_eq_false_iff, decide_eq_false_iff_not] at hmb
    have hleft : sw ((t : Int) / C.P b) (s.ws b) < C.B b := by have := hmb.2; unfold BC.left at this; rw [hK] at this; omega
    have hrow : (if s.who1 (7 + t) = b then s.row1 (7 + t) else 0) + 1 = (if s.who = b then s.row else 0) + 1 := by rw [hw1, hr1]
    have hws : ∀ i, i < C.n → ∀ K, sw K (upd s.ws b (s.ws b ++ [(C.K b (7 + t), 1)]) i) = sw K (s.ws i) + (if i = b ∧ (t : Int) / C.P b = K then 1 else 0) := fun i hi K => by
      unfold upd
      by_cases e2 : i = b
      · subst e2; rw [if_pos rfl, sw_app, hK]; dsimp only; simp
      · rw [if_neg e2, if_neg (fun h => e2 h.1)]; omega
    have hmost : ∀ i, i < C.n → ∀ K, 0 ≤ sw K (upd s.ws b (s.ws b ++ [(C.K b (7 + t), 1)]) i) ∧ sw K (upd s.ws b (s.ws b ++ [(C.K b (7 + t), 1)]) i) ≤ C.B i := fun i hi K => by
      rw [hws i hi]
      have := H.most i hi K
      split
      · rename_i g; obtain ⟨rfl, rfl⟩ := g; omega
      · omega
    have hwin : ∀ i, i < C.n → ∀ p ∈ upd s.ws b (s.ws b ++ [(C.K b (7 + t), 1)]) i, p.1 ≤ ((t + 1 : Nat) - 1 : Int) / C.P i := fun i hi p hp => by
      rw [e]
      have hd := div_le_next (t := t) (P := C.P i) (by have := hC.share i hi; omega)
      unfold upd at hp
      split at hp
      · rename_i e2; subst e2
        rcases List.mem_append.1 hp with hp | hp
        · have := H.win i hi p hp; omega
        · simp at hp; subst hp; dsimp only; rw [hK]; exact Int.le_refl _
      · have := H.win i hi p hp; omega
    have one := fun (i : Nat) (hi : i < C.n) => shr_one (v := if i = b then 1 else 0) (hC.share i hi) hb hn (H.win i hi) (H.most i hi) (H.k2 i hi) (H.h0 i hi).1 (by split <;> omega) (by split <;> omega) (sw ((((t + 1 : Nat) : Int) - 1) / C.P i) (upd s.ws b (s.ws b ++ [(C.K b (7 + t), 1)]) i))
    refine ⟨b, hbn, rfl, rfl, hq.1, rfl, hrow, fun hbu => ?_, fun hin => ?_, fun hin => ?_⟩
    · show (if s.who1 (7 + t) = b then s.row1 (7 + t) else 0) + 1 ≤ _
      rw [hrow]
      rcases hmb.1 with h1 | h1 | h1
      · omega
      · rw [if_neg h1]; omega
      · split <;> omega
    · refine ⟨by show (7 : Int) + t + 1 = _; omega, hwin, hmost, fun i hi => ?_, fun i hi => ?_⟩
      · have h1 := (one i hi).1 hin (by
          rw [hws i hi, e]
          by_cases e2 : i = b
          · subst e2; simp
          · rw [if_neg (fun h => e2 h.1), if_neg e2])
        have h2 : h i + (if i = b then 1 else 0) = upd h b (h b + 1) i := by
          unfold upd
          by_cases e2 : i = b
          · subst e2; simp
          · simp [e2]
        rw [h2] at h1
        exact h1
      · have := H.h0 i hi
        have := H.h0 b hbn
        unfold upd; split <;> omega
    · exact ⟨by show (7 : Int) + t + 1 = _; omega, hwin, hmost, fun i hi => (one i hi).2 hin, fun i hi => by have := H.h0 i hi; omega⟩
theorem bnew_no {A : Option Addr} {cap : Nat} {ph : Int} {C : BC} {V : Nat → Nat → Value} (w : World) (rd : RdM w A C.n 4 V) (hV : MV C V) (h : ¬ (1 ≤ C.n ∧ C.n ≤ 16) ∨ ¬ ∀ i, i < C.n → okM (C.prio i) (C.burst i) (C.B i) (C.P i)) :
    Calls Try.prog 10 #[.slice A C.n cap, .int .u64 ph] w fun e w' => e = .returned (.tuple #[.pointer none, .int .i64 1]) ∧ Below w.heap.size w w' := by
  by_cases hr : 1 ≤ C.n ∧ C.n ≤ 16
  · exact bnew_bad w hr.1 hr.2 rd hV (h.resolve_left (fun h => h hr))
  · exact bnew_len w hr
theorem rdm_stay {w w' : World} {A : Option Addr} {n m : Nat} {V : Nat → Nat → Value} (rd : RdM w A n m V) (hw : Below w.heap.size w w') : RdM w' A n m V := fun h => by
  obtain ⟨b, off, e, hlt, hc⟩ := rd h
  exact ⟨b, off, e, Nat.lt_of_lt_of_le hlt hw.size, fun j hj i hi => (hw.cell (p := ⟨b, off + (j * m + i), none⟩) hlt).trans (hc j hj i hi)⟩
theorem Try.infoU : (Try.prog.info? 23).map (fun i => (i.zero, i.size, i.bytes)) = some (some (.int .u64 0), 1, 8) := by kernel_rfl
theorem walk (A : Option Addr) (n cap : Nat) (V : Nat → Nat → Value) (A' : Option Addr) (n1 cap1 : Nat) (f1 : Nat → Int) (a c : Int) (w : World) (hm : n ≤ maxLen) (hm1 : n1 ≤ maxLen) (rd : RdM w A n 4 V) (hV : MV (bcOf n V 7) V)
    (rd1 : Rd w A' n1 (fun i => .int .u16 (f1 i))) (w1 : ∀ i, (Lit.int .u16 (f1 i)).wf = true) (ba : 0 ≤ a ∧ a ≤ 255) (bc : 0 ≤ c ∧ c ≤ 255) :
    Calls Try.prog 4 #[.slice A n cap, .slice A' n1 cap1, .agg #[.int .u8 a, .int .u8 c]] w fun r w' => r = .returned (.bool true) ∧ Below w.heap.size w w' := by
  have sb : St w None _ [_] := (St.begin w).box 52 #[.int .u8 a, .int .u8 c]
  go_enter Try.func4, Try.ntmps4
  go_wp2_with fail
  refine (bawake _).mono ?_
  rintro e w2 ⟨rfl, hw2⟩
  have s2 := sb.stay hw2
  clear sb
  obtain ⟨x, hx1, hx2, hxc0⟩ := all_any (C := bcOf n V 7) (cap := cap) w hm rd hV
  clear hxc0
  cases x with
  | false =>
    have HX2 := Lib.hid (hx2 rfl)
    clear hx1 hx2
    go_wp2_with fail
    refine (bnew_no (C := bcOf n V 7) w2 (rdm_stay rd s2.below) hV HX2.out).mono ?_
    rintro e w3 ⟨rfl, hw3⟩
    have s3 := s2.stay hw3
    obtain ⟨x, hx1, _, hxc⟩ := all_any (C := bcOf n V 7) (cap := cap) w3 hm (rdm_stay rd s3.below) hV
    obtain rfl : x = false := by
      cases x with
      | false => rfl
      | true =>
        have h := hx1 rfl
        rcases HX2.out with h2 | h2
        · exact absurd ⟨h.1, h.2.1⟩ h2
        · exact absurd h.2.2 h2
    clear hx1
    by_cases hn1 : n1 = 0
    · subst hn1
      go_wp2_with fail
      refine hxc.mono ?_
      rintro e w4 ⟨rfl, hw4⟩
      go_wp2_with fail
      go_ret
      exact ⟨rfl, (s3.stay hw4).below⟩
    · have z0 : ((n1 : Int) == 0) = false := beq_eq_false_iff_ne.2 (by omega)
      go_wp2_with fail
      refine hxc.mono ?_
      rintro e w4 ⟨rfl, hw4⟩
      go_wp2_with fail
      go_ret
      exact ⟨rfl, (s3.stay hw4).below⟩
  | true =>
    obtain ⟨g1, g16, gok⟩ := hx1 rfl
    have HC := Lib.hid (bc_ok (C := bcOf n V 7) (ph := 7) g1 g16 gok rfl (by omega))
    clear hx1 hx2
    have g1 : 1 ≤ n := g1
    have g16 : n ≤ 16 := g16
    have HG := Lib.hid gok
    clear gok
    go_wp2_with fail
    refine (bnew2 (n := n) HC.out rfl rfl hV s2 (rdm_stay rd s2.below)).mono ?_
    rintro e w3 ⟨b, g, mp, rfl, s3'⟩
    have s3 : St w None w3 [_, _] := s3'
    clear s3' s2
    obtain ⟨x, hx1, hx2, hxc⟩ := all_any (C := bcOf n V 7) (cap := cap) w3 hm (rdm_stay rd s3.below) hV
    obtain rfl : x = true := by
      cases x with
      | true => rfl
      | false =>
        rcases hx2 rfl with h2 | h2
        · exact absurd ⟨g1, g16⟩ h2
        · exact absurd HG.out h2
    clear hx1 hx2
    go_wp2_with fail
    refine hxc.mono ?_
    rintro e w4 ⟨rfl, hw4⟩
    have s4 := s3.stay hw4
    clear hxc s3
    by_cases hn1 : n1 = 0
    · subst hn1
      go_wp2_with fail
      go_ret
      exact ⟨rfl, s4.below⟩
    · have z0 : ((n1 : Int) == 0) = false := beq_eq_false_iff_ne.2 (by omega)
      obtain ⟨iI, hiI, hzI, hsI, hbI⟩ := info_parts Try.infoI
      obtain ⟨iU, hiU, hzU, hsU, hbU⟩ := info_parts Try.infoU
      have mU := fun W => run_make_rowN (P := Try.prog) 53 23 iU (.int .u64 0) Try.underlying53 hiU hzU rfl hsU .i64 .i64 n (by rw [hbU]; omega) (by omega) W
      obtain ⟨b0, b1⟩ := (s4.blk 0 rfl).two
      obtain ⟨bg, hbg⟩ : ∃ bg, a % 200 = bg := ⟨_, rfl⟩
      obtain ⟨nn, hnn⟩ : ∃ nn, c % 200 = nn := ⟨_, rfl⟩
      have hb0 : 0 ≤ bg ∧ bg < 200 := by omega
      have hn0 : 0 ≤ nn ∧ nn < 200 := by omega
      have s5 := s4.made_row 23 n (.int .u64 0)
      have H0 := Lib.hid (bs0_ok HC.out)
      have HT := Lib.hid (shr_begin (bg := bg) (nn := nn) HC.out hb0.1 hn0.1)
      go_wp2_with fail
      clear mU s4 b0 b1
      rw [hbg, hnn]
      have HBN := Lib.hid (And.intro hbg hnn)
      clear hbg hnn
      generalize w4.heap.size = wb at *
      go_loopw [12, 13, 14] (fun row last t wr => ∃ (k : Nat) (s : BS) (h : Nat → Int), k ≤ 200 ∧ t = .int .i64 k ∧ row = .int .i64 s.row ∧ last = .int .i64 s.who ∧ Shr (bcOf n V 7) bg nn k s h ∧ s.OK (bcOf n V 7) k ∧ St w None wr [BlkR w.heap.size 52 #[.int .u8 a, .int .u8 c], BusP (bcOf n V 7) b g mp s, ArrR wb 23 n (fun i => .int .u64 (h i))]) (fun _ _ t _ => 200 - (intOf t).toNat)
      case atStart => exact ⟨0, _, _, by omega, rfl, rfl, rfl, HT.out, H0.out, s5⟩
      case round =>
        clear s5
        obtain ⟨k, s, h, hk, rfl, rfl, rfl, hS, hO, sr⟩ := hrel
        have HS := Lib.hid hS
        have HO := Lib.hid hO
        have hrow0 := hO.row
        have hwho0 := hO.who
        have hh0 := hS.h0
        clear hS hO
        by_cases hlt : k < 200
        · have d0 : decide ((k : Int) < 200) = true := decide_eq_true (by omega)
          obtain ⟨j1, hj1⟩ : ∃ j1 : Nat, (k : Int) % (n1 : Int) = j1 := ⟨k % n1, by simp⟩
          have hj1n : j1 < n1 := by have := Int.emod_lt_of_pos (k : Int) (show (0 : Int) < n1 by omega); omega
          obtain ⟨y, hy⟩ : ∃ y, f1 j1 = y := ⟨_, rfl⟩
          have by1 := bounds_u16 (w1 j1)
          rw [hy] at by1
          have HY := Lib.hid hy
          have HH0 := Lib.hid hh0
          clear hy hh0
          go_wp2_with fail
          go_loopw [15, 16] (fun l id wx => ∃ j : Nat, j ≤ n ∧ id = .int .i64 j ∧ ∃ B cp, l = .slice B (il (bitB y) j).length cp ∧ St w None wx [BlkR w.heap.size 52 #[.int .u8 a, .int .u8 c], BusP (bcOf n V 7) b g mp s, ArrR wb 23 n (fun i => .int .u64 (h i)), LisR 3 1 l (il (bitB y) j).length (sv (il (bitB y) j))]) (fun _ id _ => n - (intOf id).toNat)
          case atStart => exact ⟨0, by omega, rfl, none, 0, rfl, sr.lis_nil _ _⟩
          case round =>
            clear sr
            obtain ⟨j, hj, rfl, B, cp, rfl, sr⟩ := hrel
            have hl0 := il_len (bitB y) j
            by_cases hlt2 : j < n
            · obtain ⟨ib, off, rfl, hib, hcell⟩ := rd1.below sr.below (Nat.le_refl _) (by omega)
              have ck := hcell j1 hj1n
              dsimp only at ck
              rw [HY.out] at ck
              clear hcell
              cases hb : bitB y j with
              | false =>
                have hb' : (bits BinOp.and IntKind.u16 (y / 2 ^ j) 1 == 1) = false := hb
                have HI := Lib.hid (il_no hb)
                obtain ⟨q, hq⟩ : ∃ q, (il (bitB y) j).length = q := ⟨_, rfl⟩
                rw [hq] at sr
                have SR := Lib.hid sr
                have HL := Lib.hid hq
                rw [hq]
                clear hq hb sr
                go_wp2
                go_roundw
                case rel => exact ⟨j + 1, by omega, by go_num, B, cp, by rw [HI.out, HL.out], by rw [HI.out, HL.out]; exact SR.out⟩
                case measure => simp [intOf]; omega
              | true =>
                have hb' : (bits BinOp.and IntKind.u16 (y / 2 ^ j) 1 == 1) = true := hb
                have HI := Lib.hid (il_yes hb)
                clear hb
                obtain ⟨q, hq⟩ : ∃ q, (il (bitB y) j).length = q := ⟨_, rfl⟩
                rw [hq] at sr
                have HQ := Lib.hid hq
                have hq2 : q ≤ n := by omega
                rw [hq]
                clear hq
                have s4 := sr.alloc (.cells #[.int .i64 j] 3)
                have hl4 := s4.lis 3 rfl
                have hr4 := rds_box wr 3 (.int .i64 j)
                clear sr
                go_wp2_with (at_builtin; refine wpList_lis rfl (.tmp 85) (.tmp 87) 38 rfl 3 iI (.int .i64 0) 1 8 Try.underlying38 hiI hzI hsI hbI rfl (by decide) _ _ _ rfl hl4 (some ⟨wr.heap.size, 0, none⟩) 1 1 [.int .i64 j] rfl hr4 (by simp [Value.oneCell']) (by unfold maxLen; omega) (by omega) ?_; intro B6 cap6 w6 hl6 hg6 hat6; have s6 : St w None w6 [BlkR w.heap.size 52 #[.int .u8 a, .int .u8 c], BusP (bcOf n V 7) b g mp s, ArrR wb 23 n (fun i => .int .u64 (h i)), _] := s4.lis_put 3 rfl hl6 hg6 hat6; clear hl6 hg6 hat6)
                go_roundw
                case rel =>
                  refine ⟨j + 1, by omega, by go_num, B6, cap6, ?_, ?_⟩
                  · rw [HI.out]; simp only [List.length_append, List.length_singleton, HQ.out]
                  · rw [HI.out, sv_app]; simp only [List.length_append, List.length_singleton, HQ.out]
                    exact s6
                case measure => simp [intOf]; omega
            · obtain rfl : j = n := by omega
              obtain ⟨l, hl⟩ : ∃ l, l = il (bitB y) j := ⟨_, rfl⟩
              rw [← hl] at sr hl0
              rw [← hl]
              have hlis := rd_sv (sr.lis 3 rfl)
              have hok : okB l.length (fs l) (bcOf j V 7).n = true := okB_of hl (fs_ok l).1
              obtain ⟨v, f, s', hR⟩ := slotR_ex (bcOf j V 7) s (7 + k) (okB l.length (fs l) (bcOf j V 7).n) (wantB l.length (fs l))
              have hR2 := hR
              rw [hok] at hR2
              have hcase := slot_shr HC.out rfl hb0.1 hn0.1 hlt (by omega) HS.out hR2
              have HO2 := Lib.hid (hR.next HO.out)
              have HR := Lib.hid hR
              have HWANT := Lib.hid (fun (i : Nat) (hi : i < j) => want_of hl (fs_ok l).1 (fs_ok l).2 hi)
              have hlj : l.length ≤ j := hl0
              clear hR hR2 hok hl
              rcases hcase with ⟨rfl, hwho, hrow, hS2⟩ | ⟨bb, hbn, rfl, rfl, hwant, hwho, hrow, hburst, hyes, hno⟩
              · have HWH := Lib.hid hwho
                have HRW := Lib.hid hrow
                have HS2 := Lib.hid hS2
                clear hwho hrow hS2
                go_wp2_with fail
                refine (Slot_o sr 1 rfl HC.out HO.out (by omega) (by omega) (by unfold maxLen; omega) hlis HR.out).mono ?_
                rintro e w6 ⟨rfl, s6'⟩
                have s6 : St w None w6 [BlkR w.heap.size 52 #[.int .u8 a, .int .u8 c], BusP (bcOf j V 7) b g mp s', ArrR wb 23 j (fun i => .int .u64 (h i))] := St.take s6' 3
                clear s6' sr hlis
                go_wp2
                go_roundw
                case rel => exact ⟨k + 1, s', h, by omega, by go_num, by rw [HRW.out], by rw [HWH.out], HS2.out, HO2.out, s6⟩
                case measure => simp [intOf]; omega
              · have hbn : bb < j := hbn
                have hbit : (bits BinOp.and IntKind.u16 (y / 2 ^ bb) 1 == 1) = true := by rw [HWANT.out bb hbn] at hwant; exact hwant
                have hbit2 : (bits BinOp.and IntKind.u16 (y / 2 ^ bb) 1 != 1) = false := by simp only [bne, hbit]; rfl
                have HWH := Lib.hid hwho
                have hyes := Lib.hid hyes
                have hno := Lib.hid hno
                have hhb := HH0.out bb hbn
                have i0 : (0 : Int) ≤ (bb : Int) := by omega
                have i1 : (bb : Int) < (j : Int) := by omega
                clear hwant hwho hbit
                go_wp2_with fail
                refine (Slot_o sr 1 rfl HC.out HO.out (by omega) (by omega) (by unfold maxLen; omega) hlis HR.out).mono ?_
                rintro e w6 ⟨rfl, s6'⟩
                have s6 : St w None w6 [BlkR w.heap.size 52 #[.int .u8 a, .int .u8 c], BusP (bcOf j V 7) b g mp s', ArrR wb 23 j (fun i => .int .u64 (h i))] := St.take s6' 3
                clear s6' sr hlis
                obtain ⟨ib2, off2, rfl, c0, c1, c2, c3⟩ := hV.at_ rd s6.below hbn
                obtain ⟨ib, off, rfl, hib, hcell⟩ := rd1.below s6.below (Nat.le_refl _) (by omega)
                have ck := hcell j1 hj1n
                dsimp only at ck
                rw [HY.out] at ck
                have ch := s6.arr_cell 2 rfl hbn
                have fh := s6.arr_frozen 2 rfl bb
                have S9 : Hid (St w None (w6.setCell ⟨wb, bb, none⟩ (.int .u64 (h bb + 1))) [BlkR w.heap.size 52 #[.int .u8 a, .int .u8 c], BusP (bcOf j V 7) b g mp s', ArrR wb 23 j (fun i => .int .u64 (upd h bb (h bb + 1) i))]) := Lib.hid ((s6.arr_set 2 rfl hbn (.int .u64 (h bb + 1))).arr_like (V' := fun q => .int .u64 (upd h bb (h bb + 1) q)) 2 rfl (fun q hq => by unfold upd; split <;> rfl))
                have SR6 := Lib.hid s6
                clear s6 hcell c0 c2 c3
                obtain ⟨u, hu⟩ : ∃ u, (bcOf j V 7).burst bb = u := ⟨_, rfl⟩
                rw [hu] at c1 hburst
                clear hu
                by_cases hwb : s.who = bb
                · have dw : ((bb : Int) != s.who) = false := by simp [bne, hwb]
                  have HRW := Lib.hid (show s'.row = s.row + 1 by rw [hrow, if_pos hwb])
                  have hrb : 0 < u → s.row + 1 ≤ u := fun h => by have := hburst h; rw [HRW.out] at this; exact this
                  clear hrow hburst hwb
                  by_cases hu0 : 0 < u
                  · have du : decide (0 < u) = true := decide_eq_true hu0
                    have hrb2 := hrb hu0
                    have du2 : decide (u < s.row + 1) = false := decide_eq_false (by omega)
                    clear hrb
                    by_cases h1 : bg ≤ k
                    · have e1 : decide (bg ≤ (k : Int)) = true := decide_eq_true h1
                      by_cases h2 : (k : Int) < bg + nn
                      · have e2 : decide ((k : Int) < bg + nn) = true := decide_eq_true h2
                        go_wp2
                        go_roundw
                        case rel => exact ⟨k + 1, s', upd h bb (h bb + 1), by omega, by go_num, by rw [HRW.out], by rw [HWH.out], hyes.out ⟨by omega, by omega⟩, HO2.out, S9.out⟩
                        case measure => simp [intOf]; omega
                      · have e2 : decide ((k : Int) < bg + nn) = false := decide_eq_false h2
                        go_wp2
                        go_roundw
                        case rel => exact ⟨k + 1, s', h, by omega, by go_num, by rw [HRW.out], by rw [HWH.out], hno.out (by omega), HO2.out, SR6.out⟩
                        case measure => simp [intOf]; omega
                    · have e1 : decide (bg ≤ (k : Int)) = false := decide_eq_false h1
                      go_wp2
                      go_roundw
                      case rel => exact ⟨k + 1, s', h, by omega, by go_num, by rw [HRW.out], by rw [HWH.out], hno.out (by omega), HO2.out, SR6.out⟩
                      case measure => simp [intOf]; omega
                  · have du : decide (0 < u) = false := decide_eq_false hu0
                    clear hrb
                    by_cases h1 : bg ≤ k
                    · have e1 : decide (bg ≤ (k : Int)) = true := decide_eq_true h1
                      by_cases h2 : (k : Int) < bg + nn
                      · have e2 : decide ((k : Int) < bg + nn) = true := decide_eq_true h2
                        go_wp2
                        go_roundw
                        case rel => exact ⟨k + 1, s', upd h bb (h bb + 1), by omega, by go_num, by rw [HRW.out], by rw [HWH.out], hyes.out ⟨by omega, by omega⟩, HO2.out, S9.out⟩
                        case measure => simp [intOf]; omega
                      · have e2 : decide ((k : Int) < bg + nn) = false := decide_eq_false h2
                        go_wp2
                        go_roundw
                        case rel => exact ⟨k + 1, s', h, by omega, by go_num, by rw [HRW.out], by rw [HWH.out], hno.out (by omega), HO2.out, SR6.out⟩
                        case measure => simp [intOf]; omega
                    · have e1 : decide (bg ≤ (k : Int)) = false := decide_eq_false h1
                      go_wp2
                      go_roundw
                      case rel => exact ⟨k + 1, s', h, by omega, by go_num, by rw [HRW.out], by rw [HWH.out], hno.out (by omega), HO2.out, SR6.out⟩
                      case measure => simp [intOf]; omega
                · have dw : ((bb : Int) != s.who) = true := by simp [bne, Ne.symm hwb]
                  have HRW := Lib.hid (show s'.row = 1 by rw [hrow, if_neg hwb]; rfl)
                  have hrb : 0 < u → 1 ≤ u := fun h => by have := hburst h; rw [HRW.out] at this; exact this
                  clear hrow hburst hwb
                  by_cases hu0 : 0 < u
                  · have du : decide (0 < u) = true := decide_eq_true hu0
                    have hrb2 := hrb hu0
                    have du2 : decide (u < 1) = false := decide_eq_false (by omega)
                    clear hrb
                    by_cases h1 : bg ≤ k
                    · have e1 : decide (bg ≤ (k : Int)) = true := decide_eq_true h1
                      by_cases h2 : (k : Int) < bg + nn
                      · have e2 : decide ((k : Int) < bg + nn) = true := decide_eq_true h2
                        go_wp2
                        go_roundw
                        case rel => exact ⟨k + 1, s', upd h bb (h bb + 1), by omega, by go_num, by rw [HRW.out], by rw [HWH.out], hyes.out ⟨by omega, by omega⟩, HO2.out, S9.out⟩
                        case measure => simp [intOf]; omega
                      · have e2 : decide ((k : Int) < bg + nn) = false := decide_eq_false h2
                        go_wp2
                        go_roundw
                        case rel => exact ⟨k + 1, s', h, by omega, by go_num, by rw [HRW.out], by rw [HWH.out], hno.out (by omega), HO2.out, SR6.out⟩
                        case measure => simp [intOf]; omega
                    · have e1 : decide (bg ≤ (k : Int)) = false := decide_eq_false h1
                      go_wp2
                      go_roundw
                      case rel => exact ⟨k + 1, s', h, by omega, by go_num, by rw [HRW.out], by rw [HWH.out], hno.out (by omega), HO2.out, SR6.out⟩
                      case measure => simp [intOf]; omega
                  · have du : decide (0 < u) = false := decide_eq_false hu0
                    clear hrb
                    by_cases h1 : bg ≤ k
                    · have e1 : decide (bg ≤ (k : Int)) = true := decide_eq_true h1
                      by_cases h2 : (k : Int) < bg + nn
                      · have e2 : decide ((k : Int) < bg + nn) = true := decide_eq_true h2
                        go_wp2
                        go_roundw
                        case rel => exact ⟨k + 1, s', upd h bb (h bb + 1), by omega, by go_num, by rw [HRW.out], by rw [HWH.out], hyes.out ⟨by omega, by omega⟩, HO2.out, S9.out⟩
                        case measure => simp [intOf]; omega
                      · have e2 : decide ((k : Int) < bg + nn) = false := decide_eq_false h2
                        go_wp2
                        go_roundw
                        case rel => exact ⟨k + 1, s', h, by omega, by go_num, by rw [HRW.out], by rw [HWH.out], hno.out (by omega), HO2.out, SR6.out⟩
                        case measure => simp [intOf]; omega
                    · have e1 : decide (bg ≤ (k : Int)) = false := decide_eq_false h1
                      go_wp2
                      go_roundw
                      case rel => exact ⟨k + 1, s', h, by omega, by go_num, by rw [HRW.out], by rw [HWH.out], hno.out (by omega), HO2.out, SR6.out⟩
                      case measure => simp [intOf]; omega
        · obtain rfl : k = 200 := by omega
          go_wp2_with fail
          go_loopw [19] (fun z wx => ∃ c3 : Nat, c3 ≤ n ∧ z = .int .i64 c3 ∧ St w None wx [BlkR w.heap.size 52 #[.int .u8 a, .int .u8 c], BusP (bcOf n V 7) b g mp s, ArrR wb 23 n (fun i => .int .u64 (h i))]) (fun z _ => n - (intOf z).toNat)
          case atStart => exact ⟨0, by omega, rfl, sr⟩
          case round =>
            clear sr
            obtain ⟨c3, hc3, rfl, sr⟩ := hrel
            by_cases hlt4 : c3 < n
            · obtain ⟨ib2, off2, rfl, _, _, _, _⟩ := hV.at_ rd sr.below hlt4
              haveI : Nonempty (Within (fun wx => St w None wx [BlkR w.heap.size 52 #[.int .u8 a, .int .u8 c], BusP (bcOf n V 7) b g mp s, ArrR wb 23 n (fun i => .int .u64 (h i))])) := ⟨⟨_, sr⟩⟩
              have z1 : ∀ u : Within (fun wx => St w None wx [BlkR w.heap.size 52 #[.int .u8 a, .int .u8 c], BusP (bcOf n V 7) b g mp s, ArrR wb 23 n (fun i => .int .u64 (h i))]), u.w.cell? ⟨wb, c3, none⟩ = some (.int .u64 (h c3)) := fun u => u.h.arr_cell 2 rfl hlt4
              have z2 : ∀ u : Within (fun wx => St w None wx [BlkR w.heap.size 52 #[.int .u8 a, .int .u8 c], BusP (bcOf n V 7) b g mp s, ArrR wb 23 n (fun i => .int .u64 (h i))]), u.w.cell? ⟨ib2, off2 + c3 * 4 + 2, none⟩ = some (.int .u64 ((bcOf n V 7).B c3)) := fun u => by
                obtain ⟨_, _, e, _, _, h2, _⟩ := hV.at_ rd u.h.below hlt4
                injection e with e; injection e with e1 e2; subst e1; subst e2; exact h2
              have z3 : ∀ u : Within (fun wx => St w None wx [BlkR w.heap.size 52 #[.int .u8 a, .int .u8 c], BusP (bcOf n V 7) b g mp s, ArrR wb 23 n (fun i => .int .u64 (h i))]), u.w.cell? ⟨ib2, off2 + c3 * 4 + 3, none⟩ = some (.int .u64 ((bcOf n V 7).P c3)) := fun u => by
                obtain ⟨_, _, e, _, _, _, h2⟩ := hV.at_ rd u.h.below hlt4
                injection e with e; injection e with e1 e2; subst e1; subst e2; exact h2
              have i0 : (0 : Int) ≤ (c3 : Int) := by omega
              have i1 : (c3 : Int) < (n : Int) := by omega
              have hsh := HC.out.share c3 hlt4
              have hfin := (HS.out.k2 c3 hlt4).fin hsh hb0.1 hn0.1 (HS.out.most c3 hlt4 _).2
              have df : decide (mst ((bcOf n V 7).B c3) ((bcOf n V 7).P c3) nn < h c3) = false := decide_eq_false (by omega)
              have HM := Lib.hid (fun wz => rmost_any _ _ nn wz hsh hn0.1 (by omega))
              have wn : IntKind.u64.wrap nn = nn := IntWalk.u64_in nn ⟨by omega, by omega⟩
              have SR := Lib.hid sr
              clear sr hfin hsh
              go_wp2_with fail
              refine wp_region_in (fun wx => St w None wx [BlkR w.heap.size 52 #[.int .u8 a, .int .u8 c], BusP (bcOf n V 7) b g mp s, ArrR wb 23 n (fun i => .int .u64 (h i))]) (by kernel_rfl) (by kernel_rfl) SR.out.drew ?_
              repeat (go_big_quiet_step ((go_at_call 20; exact in_call (p := fun wx => St w None wx [BlkR w.heap.size 52 #[.int .u8 a, .int .u8 c], BusP (bcOf n V 7) b g mp s, ArrR wb 23 n (fun i => .int .u64 (h i))]) (looks (HM.out _) (Within.h (p := fun wx => St w None wx [BlkR w.heap.size 52 #[.int .u8 a, .int .u8 c], BusP (bcOf n V 7) b g mp s, ArrR wb 23 n (fun i => .int .u64 (h i))]) _)))))
              refine wpQuiet_nil ?_
              rintro _ ⟨⟨wq, sq⟩, rfl⟩
              go_wp2
              go_roundw
              case rel => exact ⟨c3 + 1, by omega, by go_num, sq⟩
              case measure => simp [intOf]; omega
            · go_wp2
              go_ret
              exact ⟨rfl, sr.below⟩

set_option maxRecDepth 100000 in
theorem lifted (os : Os) (started : os.Started) (H : Type) (enc : TypeId × Value → H) :
    ReturnsInHanded {} Try.checked os 4 .any (Rows.busSharesSpec.pre6 enc Try.prog Try.f4 Rows.busSharesRow.domain false) (Rows.busSharesSpec.post enc Try.prog Try.f4 false true false false) := by
  refine law_lifted (C := Try.checked) (tb := 4) own started (by kernel_rfl) Try.func4
    (ChangeSpec.witness6 (enc := enc) (C := Try.checked) false ⟨#[], #[.slice none 0 0, .slice none 0 0, .agg #[.int .u8 0, .int .u8 0]], []⟩ 8 (by kernel_rfl) (by kernel_rfl) (by kernel_rfl) (by kernel_rfl)) laid (by kernel_rfl) (by kernel_rfl) Try.underlying4 rfl ?_
  intro W base args ds ps hval0 hA0 hlt
  have hval : ∀ (j : Nat) t v, Try.f4.params[j]? = some t → args[j]? = some v → Value.okWide Try.prog W .any base t v := hval0
  have hA : DataW.TrodAll enc Try.prog W 0 (fun _ => true) true Try.f4.params.toList args.toList ds ps := hA0
  clear hA0 hval0
  rw [Try.params4] at hA hval
  obtain ⟨v0, vs0, d0, ds0, p0, q0, hargs, rfl, rfl, h0, r0⟩ := trodAll_cons hA
  obtain ⟨v1, vs1, d1, ds1, p1, q1, rfl, rfl, rfl, h1, r1⟩ := trodAll_cons r0
  obtain ⟨v2, vs2, d2, ds2, p2, q2, rfl, rfl, rfl, h2, r2⟩ := trodAll_cons r1
  obtain ⟨rfl, rfl, rfl⟩ := trodAll_nil r2
  obtain rfl : args = #[v0, v1, v2] := by cases args; simp_all
  obtain ⟨A0, n0, cap0, V0, rfl, le0, mx0, rd0, lf0⟩ := open_slice_spots (m := 4) (d := 20) (l := [(0, 3), (1, 3), (2, 23), (3, 23)]) Try.underlying22 (by kernel_rfl) (by decide) (by kernel_rfl) (hval 0 22 v0 rfl rfl) h0
  have f0_0 := fun j hj => leaf_int Try.underlying3 (lf0 0 3 (by simp) j hj)
  have f0_1 := fun j hj => leaf_int Try.underlying3 (lf0 1 3 (by simp) j hj)
  have f0_2 := fun j hj => leaf_int Try.underlying23 (lf0 2 23 (by simp) j hj)
  have f0_3 := fun j hj => leaf_int Try.underlying23 (lf0 3 23 (by simp) j hj)
  obtain ⟨A1, n1, cap1, f1, rfl, le1, mx1, wf1, rd1⟩ := open_slice_ints Try.underlying51 Try.underlying54 (by kernel_rfl) (hval 1 51 v1 rfl rfl) h1
  obtain ⟨cs2, rfl, sz2, ok2⟩ := open_flat (ts := [5, 5]) (Or.inr ⟨_, _, Try.underlying52⟩) (by kernel_rfl) (by kernel_rfl) (hval 2 52 v2 rfl rfl)
  obtain ⟨c2_0, c2_1, rfl⟩ := size2 sz2
  obtain ⟨a2_0, rfl, w2_0⟩ := cell_int Try.underlying5 (ok2 0 _ _ rfl rfl)
  obtain ⟨a2_1, rfl, w2_1⟩ := cell_int Try.underlying5 (ok2 1 _ _ rfl rfl)
  refine ⟨⟨rfl, rfl, rfl⟩, ?_⟩
  exact walk A0 n0 cap0 V0 A1 n1 cap1 f1 a2_0 a2_1 W (by omega) (by omega) rd0 (mvOf (ints f0_0) (ints f0_1) (ints f0_2) (ints f0_3)) rd1 wf1 (bounds_u8 w2_0) (bounds_u8 w2_1)

theorem over : Rows.busSharesRow.holds Try.pinned (OpenSpec.ofChange Rows.busSharesSpec) :=
  OpenClaim.holds_of_wide 4 Try.f4 rfl rfl rfl rfl rfl rfl rfl ⟨rfl, rfl, rfl, rfl, rfl⟩ rfl rfl rfl rfl rfl (by kernel_rfl) Try.func4 (by kernel_rfl)
    (of_decide_eq_true (by kernel_rfl)) (by unfold Func.isWrapper; first | (rw [if_pos (by decide +kernel)]; kernel_rfl) | (rw [if_neg (by decide +kernel)]; exact ⟨rfl, rfl⟩))
    (fun os started H enc _ => lifted os started H enc)
theorem proved : Rows.BusSharesSaid := over
#print axioms proved
end Go.Proofs.Ytabocojmobbpaaa.busShares
