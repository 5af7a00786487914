/- Layer 18: a queue in memory; what may be; where a number stands; the least time. Printed by bin/genOrdC.py. -/
import Derived.Test.YtmikjbhhnndncaaRows
import Derived.Test.YtmikjbhhnndncaaOrdM
import Derived.Test.YtmikjbhhnndncaaMore
import Derived.WalkLawsBesides
import Derived.WalkSpells
import Derived.BigQuiet
import Derived.RegionTactic
import Derived.LoopTactic
import Derived.Outline
import Derived.WalkKit
import Derived.Lib.Hide
import Derived.IntWalk
import Derived.WalkMore
import Derived.StillTailTactics
import Derived.Deep.DeepCutAuto
namespace Go.Proofs.Ytmikjbhhnndncaa
open Go.RowKit
set_option linter.unusedVariables false
set_option maxRecDepth 100000
set_option maxHeartbeats 1000000
def Wt.v (x : Wt) : Value := .agg #[.int .i64 x.id, .int .u64 x.dead, .int .i64 x.track]
def Wt.cells (x : Wt) : Array Value := #[.int .i64 x.id, .int .u64 x.dead, .int .i64 x.track]
def OQL (q : Nat) (A : Option Addr) (c : Nat) (s : OSt) : List Res :=
  [BlkR q 55 #[.slice A s.l.length c, .int .i64 s.head, .bool s.up], LisR 32 3 (.slice A s.l.length c) s.l.length (ovs s.l)]
def OQR (q : Nat) (s : OSt) : Res := fun w S => ∃ A c, Star (OQL q A c s) w S
theorem OQR.ok (q : Nat) (s : OSt) : Ok (OQR q s) :=
  ⟨fun ⟨A, c, h⟩ b hb => (Star.ok _).lt h b hb, fun ⟨A, c, h⟩ hk => ⟨A, c, (Star.ok _).frame h hk⟩⟩
theorem tmay (t : Int) (w : World) (b : Bool) (hb : b = decide (t < 4611686018427387904)) : Calls Try.prog 27 #[.int .u64 t] w fun e w' => e = .returned (.bool b) ∧ w = w' := by
  by_cases h : t < 4611686018427387904
  · obtain rfl : b = true := by rw [hb]; exact decide_eq_true h
    have d : decide (t < 4611686018427387904) = true := decide_eq_true h
    clear hb h
    go_enter Try.func27, Try.ntmps27
    go_wp2_with fail
    go_ret
    exact ⟨rfl, rfl⟩
  · obtain rfl : b = false := by rw [hb]; exact decide_eq_false h
    have d : decide (t < 4611686018427387904) = false := decide_eq_false h
    clear hb h
    go_enter Try.func27, Try.ntmps27
    go_wp2_with fail
    go_ret
    exact ⟨rfl, rfl⟩
theorem May_c (x : Wt) (w : World) (hx : 0 ≤ x.dead) (b : Bool) (hb : b = decide (mayW x)) :
    Calls Try.prog 13 #[x.v] w fun e w' => e = .returned (.bool b) ∧ Below w.heap.size w w' := by
  obtain ⟨q0, q1, q2⟩ := (Blk.new w 32 #[.int .i64 x.id, .int .u64 x.dead, .int .i64 x.track]).three
  unfold Wt.v
  by_cases h0 : 0 ≤ x.id
  case neg =>
    obtain rfl : b = false := by rw [hb]; exact decide_eq_false fun h => by unfold mayW at h; omega
    have d0 : decide (0 ≤ x.id) = false := decide_eq_false h0
    clear hb h0 hx
    go_enter Try.func13, Try.ntmps13
    go_wp2_with fail
    go_ret
    exact ⟨rfl, (Below.refl _ _).alloc (Nat.le_refl _) _⟩
  have d0 : decide (0 ≤ x.id) = true := decide_eq_true h0
  by_cases h1 : x.id ≤ 65535
  case neg =>
    obtain rfl : b = false := by rw [hb]; exact decide_eq_false fun h => by unfold mayW at h; omega
    have d1 : decide (x.id ≤ 65535) = false := decide_eq_false h1
    clear hb h0 h1 hx
    go_enter Try.func13, Try.ntmps13
    go_wp2_with fail
    go_ret
    exact ⟨rfl, (Below.refl _ _).alloc (Nat.le_refl _) _⟩
  have d1 : decide (x.id ≤ 65535) = true := decide_eq_true h1
  by_cases h2 : x.dead < 4611686018427387904
  case neg =>
    obtain rfl : b = false := by rw [hb]; exact decide_eq_false fun h => by unfold mayW at h; omega
    have TM := Lib.hid (show false = decide (x.dead < 4611686018427387904) from (decide_eq_false h2).symm)
    clear hb h0 h1 h2 hx
    go_enter Try.func13, Try.ntmps13
    go_wp2_with fail
    refine (tmay x.dead _ _ TM.out).mono ?_
    rintro e w1 ⟨rfl, rfl⟩
    go_wp2_with fail
    go_ret
    exact ⟨rfl, (Below.refl _ _).alloc (Nat.le_refl _) _⟩
  by_cases h3 : 0 ≤ x.track
  case neg =>
    obtain rfl : b = false := by rw [hb]; exact decide_eq_false fun h => by unfold mayW at h; omega
    have TM := Lib.hid (show true = decide (x.dead < 4611686018427387904) from (decide_eq_true h2).symm)
    have d3 : decide (0 ≤ x.track) = false := decide_eq_false h3
    clear hb h0 h1 h2 h3 hx
    go_enter Try.func13, Try.ntmps13
    go_wp2_with fail
    refine (tmay x.dead _ _ TM.out).mono ?_
    rintro e w1 ⟨rfl, rfl⟩
    go_wp2_with fail
    go_ret
    exact ⟨rfl, (Below.refl _ _).alloc (Nat.le_refl _) _⟩
  have d3 : decide (0 ≤ x.track) = true := decide_eq_true h3
  by_cases h4 : x.track ≤ 1048576
  case neg =>
    obtain rfl : b = false := by rw [hb]; exact decide_eq_false fun h => by unfold mayW at h; omega
    have TM := Lib.hid (show true = decide (x.dead < 4611686018427387904) from (decide_eq_true h2).symm)
    have d4 : decide (x.track ≤ 1048576) = false := decide_eq_false h4
    clear hb h0 h1 h2 h3 h4 hx
    go_enter Try.func13, Try.ntmps13
    go_wp2_with fail
    refine (tmay x.dead _ _ TM.out).mono ?_
    rintro e w1 ⟨rfl, rfl⟩
    go_wp2_with fail
    go_ret
    exact ⟨rfl, (Below.refl _ _).alloc (Nat.le_refl _) _⟩
  have d4 : decide (x.track ≤ 1048576) = true := decide_eq_true h4
  obtain rfl : b = true := by rw [hb]; exact decide_eq_true (by unfold mayW; omega)
  have TM := Lib.hid (show true = decide (x.dead < 4611686018427387904) from (decide_eq_true h2).symm)
  clear hb h0 h1 h2 h3 h4 hx
  go_enter Try.func13, Try.ntmps13
  go_wp2_with fail
  refine (tmay x.dead _ _ TM.out).mono ?_
  rintro e w1 ⟨rfl, rfl⟩
  go_wp2_with fail
  go_ret
  exact ⟨rfl, (Below.refl _ _).alloc (Nat.le_refl _) _⟩
section
variable {w0 w w' : World} {S0 S : Nat → Prop} {N L : List Res} {q : Nat} {s s' : OSt}
theorem want_at {A : Option Addr} {n c i : Nat} {l : List Wt} {x : Wt} (h : Lis w 32 3 (.slice A n c) n (ovs l)) (hx : l[i]? = some x) : ∃ b off, A = some ⟨b, off, none⟩ ∧ i < n ∧ w.cell? ⟨b, off + i * 3, none⟩ = some (.int .i64 x.id) ∧ w.cell? ⟨b, off + i * 3 + 1, none⟩ = some (.int .u64 x.dead) ∧ w.cell? ⟨b, off + i * 3 + 2, none⟩ = some (.int .i64 x.track) := by
  have hl : l.length = n := by have := h.1; rw [ovs_len] at this; omega
  have hi := (List.getElem?_eq_some_iff.1 hx).1
  rcases h.reads.2 with h0 | ⟨b, off, rfl, hc⟩
  · omega
  · have := ovs_at l i x hx
    exact ⟨b, off, rfl, by omega, hc _ _ this.1, by rw [Nat.add_assoc]; exact hc _ _ this.2.1, by rw [Nat.add_assoc]; exact hc _ _ this.2.2⟩
theorem lis_len {A : Option Addr} {n c : Nat} {l : List Wt} (h : Lis w 32 3 (.slice A n c) n (ovs l)) : l.length = n := by have := h.1; rw [ovs_len] at this; omega
/-- The closure of place. -/
theorem is_c (x : Wt) (id : Int) (p : Nat) (w : World) (hp : w.cell? ⟨p, 0, none⟩ = some (.int .i64 id)) (b : Bool) (hb : b = (x.id == id)) :
    Calls Try.prog 40 #[x.v, .pointer (some ⟨p, 0, none⟩)] w fun e w' => e = .returned (.bool b) ∧ Below w.heap.size w w' := by
  obtain ⟨q0, q1, q2⟩ := (Blk.new w 32 #[.int .i64 x.id, .int .u64 x.dead, .int .i64 x.track]).three
  have p0 := cell_alloc hp (.cells #[.int .i64 x.id, .int .u64 x.dead, .int .i64 x.track] 32)
  unfold Wt.v
  have HB := Lib.hid hb
  clear hb
  go_enter Try.func40, Try.ntmps40
  go_wp2_with fail
  go_ret
  exact ⟨by rw [HB.out]; rfl, (Below.refl _ _).alloc (Nat.le_refl _) _⟩
theorem IndexF_c {A : Option Addr} {n c : Nat} {l : List Wt} (H : St w0 S0 w L) (i : Nat) (hi : L[i]? = some (LisR 32 3 (.slice A n c) n (ovs l))) (hn : n ≤ 1000) (j : Nat) (p : Nat) (id : Int) (hj : L[j]? = some (BlkR p 3 #[.int .i64 id])) {z : Int} (hz : FindW l id z) :
    Calls Try.prog 39 #[.slice A n c, .func (Fn.func 40) #[] #[.pointer (some ⟨p, 0, none⟩)]] w fun e w' => e = .returned (.int .i64 z) ∧ Below w.heap.size w w' := by
  have hl := lis_len (H.lis i hi)
  have HH := Lib.hid H
  have HZ := Lib.hid hz
  clear H hz
  go_enter Try.func39, Try.ntmps39
  go_wp2_with fail
  go_loopw [8] (fun t wr => ∃ k : Nat, k ≤ n ∧ t = .int .i64 (k : Int) ∧ (∀ (m : Nat) (y : Wt), m < k → l[m]? = some y → y.id ≠ id) ∧ Below w.heap.size w wr) (fun t _ => n - (intOf t).toNat)
  case atStart => exact ⟨0, by omega, rfl, fun m y h => by omega, Below.refl _ _⟩
  case round =>
  obtain ⟨k, hk, rfl, hno, hb⟩ := hrel
  have sr := HH.out.stay hb
  have HB := Lib.hid hb
  have HNO := Lib.hid hno
  clear hno
  by_cases hkn : k < n
  · obtain ⟨x, hx⟩ : ∃ x, l[k]? = some x := ⟨_, List.getElem?_eq_getElem (by omega)⟩
    obtain ⟨b, off, rfl, -, m0, m1, m2⟩ := want_at (sr.lis i hi) hx
    have cp := (sr.blk j hj).one
    have t1 : decide ((k : Int) < (n : Int)) = true := decide_eq_true (by omega)
    have t1' : decide (k < n) = true := decide_eq_true hkn
    have IC := Lib.hid (fun b hb => is_c x id p wr cp b hb)
    unfold Wt.v at IC
    by_cases e : x.id = id
    · have I1 := Lib.hid (IC.out true (beq_iff_eq.2 e).symm)
      have HK := Lib.hid (show z = (k : Int) from by
        rcases HZ.out with ⟨_, h⟩ | ⟨i', y, h1, h2, h3, h4⟩
        · exact absurd e (h x (List.mem_of_getElem? hx))
        · rcases Nat.lt_trichotomy i' k with h5 | h5 | h5
          · exact absurd h3 (HNO.out i' y h5 h2)
          · rw [h1, h5]
          · exact absurd e (h4 k x h5 hx))
      clear e IC hx sr cp HZ hb
      go_wp2_with fail
      refine I1.out.mono ?_
      rintro e w1 ⟨rfl, b1⟩
      have S1 := Lib.hid (below_then HB.out b1)
      clear I1 b1
      go_wp2_with fail
      go_ret
      exact ⟨by rw [HK.out]; rfl, S1.out⟩
    · have I1 := Lib.hid (IC.out false (beq_eq_false_iff_ne.2 e).symm)
      have HN2 := Lib.hid (show ∀ (m : Nat) (y : Wt), m < k + 1 → l[m]? = some y → y.id ≠ id from fun m y hm hy => by
        by_cases e2 : m = k
        · subst e2; rw [hx] at hy; injection hy with hy; subst hy; exact e
        · exact HNO.out m y (by omega) hy)
      clear e IC hx sr cp HNO hb
      go_wp2_with fail
      refine I1.out.mono ?_
      rintro e w1 ⟨rfl, b1⟩
      have S1 := Lib.hid (below_then HB.out b1)
      clear I1 b1
      go_wp2_with fail
      go_roundw
      case rel => exact ⟨k + 1, by omega, by go_num, HN2.out, S1.out⟩
      case measure => simp [intOf]; omega
  · obtain rfl : k = n := by omega
    have t1 : decide ((k : Int) < (k : Int)) = false := decide_eq_false (by omega)
    have t1' : decide (k < k) = false := decide_eq_false (by omega)
    have HK := Lib.hid (show z = -1 from by
      rcases HZ.out with ⟨h, _⟩ | ⟨i', y, h1, h2, h3, h4⟩
      · exact h
      · have := (List.getElem?_eq_some_iff.1 h2).1
        exact absurd h3 (HNO.out i' y (by omega) h2))
    clear sr HZ HNO hb
    go_wp2_with fail
    go_ret
    exact ⟨by rw [HK.out]; rfl, HB.out⟩
theorem place_c (h : OQR q s w S) (hs : s.ok) {id z : Int} (hz : FindW s.l id z) :
    Calls Try.prog 25 #[.pointer (some ⟨q, 0, none⟩), .int .i64 id] w fun e w' => e = .returned (.int .i64 z) ∧ Below w.heap.size w w' := by
  obtain ⟨A, c, hr⟩ := h
  have s0 := St.start hr
  have hlen := hs.len
  have hn : s.l.length ≤ 1000 := by omega
  have s1 := s0.box 3 #[.int .i64 id]
  have q0 : (w.alloc (.cells #[.int .i64 id] 3)).cell? ⟨q, 0, none⟩ = _ := (s1.blk 0 rfl).three.1
  have IX := Lib.hid (IndexF_c s1 1 rfl hn 2 w.heap.size id rfl hz)
  clear s0 s1 hr hs hz
  generalize s.l.length = n at *
  go_enter Try.func25, Try.ntmps25
  go_wp2_with fail
  refine IX.out.mono ?_
  rintro e w1 ⟨rfl, hb⟩
  have HB2 := Lib.hid (below_box hb)
  clear hb IX
  go_wp2_with fail
  go_ret
  exact ⟨rfl, HB2.out⟩
end
end Go.Proofs.Ytmikjbhhnndncaa
