/- Contracts of layer 14's functions: a budget is one block of four values, the last a list of the times at which units come back. -/
import Derived.Test.YtdemhhmceiaohaaTickC
import Derived.Test.YtdemhhmceiaohaaLst
import Derived.WalkLawsBesides
import Derived.WalkSpells
import Derived.BigQuiet
import Derived.RegionTactic
import Derived.LoopTactic
import Derived.Outline
namespace Go.Proofs.Ytdemhhmceiaohaa
open Go.RowKit
set_option linter.unusedVariables false
/-- The budget in block b: budget, period, now; v: the slice of the times. -/
def Sb (w : World) (b : Nat) (B P N : Int) (v : Value) : Prop := Blk w b 122 #[.int .i64 B, .int .u64 P, .int .u64 N, v]
def Tm (w : World) (base : Nat) (v : Value) (xs : List Int) : Prop := Lst w base 22 v xs.length (xs.map (Value.int .u64))
section
variable {w : World} {b : Nat} {B P N : Int} {v : Value}
theorem Sb.c0 (h : Sb w b B P N v) : w.cell? ⟨b, 0, none⟩ = some (.int .i64 B) := by have := Blk.cell h 0; simpa using this
theorem Sb.c1 (h : Sb w b B P N v) : w.cell? ⟨b, 1, none⟩ = some (.int .u64 P) := by have := Blk.cell h 1; simpa using this
theorem Sb.c2 (h : Sb w b B P N v) : w.cell? ⟨b, 2, none⟩ = some (.int .u64 N) := by have := Blk.cell h 2; simpa using this
theorem Sb.c3 (h : Sb w b B P N v) : w.cell? ⟨b, 3, none⟩ = some v := by have := Blk.cell h 3; simpa using this
end
theorem Tm.ne_ {w : World} {base b : Nat} {B P N : Int} {v : Value} {xs : List Int} (h : Tm w base v xs) (hb : Sb w b B P N v) : v.ownBlock ≠ some b := Lst.ne_ h hb (by decide)
/-- What is not back by now. -/
def notBack (now : Int) (xs : List Int) : List Int := xs.dropWhile (fun x => decide (x ≤ now))
theorem notBack_drop {now : Int} {xs : List Int} {k : Nat} (hk : k ≤ xs.length) (h1 : ∀ j, j < k → xs.getD j 0 ≤ now) (h2 : k < xs.length → now < xs.getD k 0) : notBack now xs = xs.drop k := by
  unfold notBack
  induction k generalizing xs with
  | zero =>
    cases xs with
    | nil => rfl
    | cons x xs => rw [List.dropWhile_cons, if_neg (by have := h2 (by simp); simp at this; simp; omega)]; rfl
  | succ k ih =>
    cases xs with
    | nil => simp at hk
    | cons x xs =>
      have hx := h1 0 (by omega)
      simp at hx
      rw [List.dropWhile_cons, if_pos (by simpa using hx), List.drop_succ_cons]
      exact ih (by simpa using hk) (fun j hj => by have := h1 (j + 1) (by omega); simpa using this) (fun h => by have := h2 (by simp; omega); simpa using this)
theorem tmay_yes (t : Int) (w : World) (h : t < 4611686018427387904) : Calls Try.prog 54 #[.int .u64 t] w fun e w' => e = .returned (.bool true) ∧ w = w' :=
  (may_any t w).mono fun _ _ ⟨he, hw⟩ => ⟨by rw [he, decide_eq_true h], hw⟩
theorem tmay_no (t : Int) (w : World) (h : ¬ t < 4611686018427387904) : Calls Try.prog 54 #[.int .u64 t] w fun e w' => e = .returned (.bool false) ∧ w = w' :=
  (may_any t w).mono fun _ _ ⟨he, hw⟩ => ⟨by rw [he, decide_eq_false h], hw⟩
theorem check_ok (b : Nat) (B P N now : Int) (v : Value) (w : World) (hb : Sb w b B P N v) (h1 : N ≤ now) (h2 : now < 4611686018427387904) :
    Calls Try.prog 87 #[.pointer (some ⟨b, 0, none⟩), .int .u64 now] w fun e w' => e = .returned (.int .i64 0) ∧ w = w' := by
  have c2 := hb.c2
  have d1 : decide (now < N) = false := decide_eq_false (by omega)
  go_enter Try.func87, Try.ntmps87
  go_wp2_with (go_at_call 54; refine (tmay_yes _ _ h2).mono ?_; rintro e w' ⟨rfl, rfl⟩)
  go_ret
  exact ⟨rfl, rfl⟩
theorem check_hor (b : Nat) (now : Int) (w : World) (h2 : ¬ now < 4611686018427387904) :
    Calls Try.prog 87 #[.pointer (some ⟨b, 0, none⟩), .int .u64 now] w fun e w' => e = .returned (.int .i64 2) ∧ w = w' := by
  go_enter Try.func87, Try.ntmps87
  go_wp2_with (go_at_call 54; refine (tmay_no _ _ (by omega)).mono ?_; rintro e w' ⟨rfl, rfl⟩)
  go_ret
  exact ⟨rfl, rfl⟩
theorem check_arg (b : Nat) (B P N now : Int) (v : Value) (w : World) (hb : Sb w b B P N v) (h1 : now < N) (h2 : now < 4611686018427387904) :
    Calls Try.prog 87 #[.pointer (some ⟨b, 0, none⟩), .int .u64 now] w fun e w' => e = .returned (.int .i64 1) ∧ w = w' := by
  have c2 := hb.c2
  have d1 : decide (now < N) = true := decide_eq_true h1
  go_enter Try.func87, Try.ntmps87
  go_wp2_with (go_at_call 54; refine (tmay_yes _ _ h2).mono ?_; rintro e w' ⟨rfl, rfl⟩)
  go_ret
  exact ⟨rfl, rfl⟩
theorem left_any (b : Nat) (B P N : Int) (A : Option Addr) (n cap : Nat) (w : World) (hb : Sb w b B P N (.slice A n cap)) (hB : 0 ≤ B ∧ B ≤ 200) (hn : (n : Int) ≤ 1000) :
    Calls Try.prog 89 #[.pointer (some ⟨b, 0, none⟩)] w fun e w' => e = .returned (.int .i64 (B - n)) ∧ ∃ k, w' = w.drewN k := by
  have c0 := hb.c0
  have c3 := hb.c3
  go_enter Try.func89, Try.ntmps89
  go_wp2_with fail
  go_quiet (fail)
  go_wp2
  go_ret
  exact ⟨rfl, _, rfl⟩
theorem tm_at {w : World} {base : Nat} {v : Value} {xs : List Int} {A : Option Addr} {cap : Nat} (h : Tm w base v xs) (hv : v = .slice A xs.length cap) {k : Nat} (hk : k < xs.length) :
    ∃ g off, A = some ⟨g, off, none⟩ ∧ w.cell? ⟨g, off + k, none⟩ = some (.int .u64 (xs.getD k 0)) := by
  obtain ⟨A', cap', hv', _, _, hc⟩ := Lst.shape h
  rw [hv] at hv'
  injection hv' with hA
  subst hA
  obtain ⟨g, off, hA, _, _, hx⟩ := hc (by omega)
  refine ⟨g, off, hA, hx k _ ?_⟩
  simp [List.getD, List.getElem?_eq_getElem hk]
theorem goOn_any (b base : Nat) (B P N now : Int) (v : Value) (xs : List Int) (w : World) (hb : Sb w b B P N v) (hx : Tm w base v xs) (hn : xs.length ≤ 1000) :
    Calls Try.prog 88 #[.pointer (some ⟨b, 0, none⟩), .int .u64 now] w fun e w' => e = .returned (.tuple #[]) ∧ ∃ v', Sb w' b B P now v' ∧ Tm w' base v' (notBack now xs) ∧ v'.ownBlock = v.ownBlock ∧ Only b w w' := by
  obtain ⟨A, cap, hv, hcap, hmax, hcell⟩ := Lst.shape hx
  have hne := hx.ne_ hb
  subst hv
  unfold maxLen at hmax
  have hb1 : Sb (w.setCell ⟨b, 2, none⟩ (.int .u64 now)) b B P now (.slice A xs.length cap) := Blk.set_ hb 2 _
  have hx1 : Tm (w.setCell ⟨b, 2, none⟩ (.int .u64 now)) base (.slice A xs.length cap) xs := Lst.setCell hx (p := ⟨b, 2, none⟩) hne _
  have ho1 : Only b w (w.setCell ⟨b, 2, none⟩ (.int .u64 now)) := (Only.refl _ _).set_ 2 _
  have c2 := hb.c2
  have f2 := Blk.frozen hb 2
  go_enter Try.func88, Try.ntmps88
  go_wp2
  generalize w.setCell { block := b, off := 2 } (Value.int IntKind.u64 now) = w1 at *
  clear c2 f2 hb hx hcell
  have c0 := hb1.c0
  have c1 := hb1.c1
  have c2 := hb1.c2
  have c3 := hb1.c3
  have f3 := Blk.frozen hb1 3
  go_loop [4] (fun i => ∃ k : Nat, k ≤ xs.length ∧ i = .int .i64 k ∧ ∀ j, j < k → xs.getD j 0 ≤ now) (fun i => xs.length - (intOf i).toNat)
  case atStart => exact ⟨0, Nat.zero_le _, rfl, fun j hj => absurd hj (by omega)⟩
  case round =>
    obtain ⟨k, hk, rfl, hall⟩ := hrel
    have HA := Lib.hid hall
    clear hall
    by_cases hlt : k < xs.length
    · obtain ⟨g, off, rfl, hc⟩ := tm_at hx1 rfl hlt
      obtain ⟨y, hy⟩ : ∃ y, xs.getD k 0 = y := ⟨_, rfl⟩
      rw [hy] at hc
      have HY := Lib.hid hy
      by_cases hle : y ≤ now
      · have d1 : decide (y ≤ now) = true := decide_eq_true hle
        clear hy
        go_wp2
        go_round
        case rel => exact ⟨k + 1, by omega, by go_num, fun j hj => by
          by_cases h : j < k
          · exact HA.out j h
          · obtain rfl : j = k := by omega
            rw [HY.out]; exact hle⟩
        case measure => simp [intOf]; omega
      · have d1 : decide (y ≤ now) = false := decide_eq_false hle
        have NB := Lib.hid (notBack_drop hk HA.out (fun _ => by rw [hy]; omega))
        clear hy
        by_cases hk0 : k = 0
        · subst hk0
          simp only [Nat.add_zero] at hc
          go_wp2
          go_end0
          exact ⟨rfl, _, hb1, by rw [NB.out]; exact hx1, rfl, ho1⟩
        · have hkp : 0 < k := by omega
          have i0 : (0 : Int) ≤ (k : Int) := by omega
          have i1 : (k : Int) ≤ (xs.length : Int) := by omega
          have i2 : (xs.length : Int) ≤ (cap : Int) := by omega
          go_wp2
          go_region
          go_wp2
          obtain ⟨g', off', hA, hcut⟩ := Lst.cut hx1 rfl hk (by omega)
          injection hA with hA
          injection hA with hg ho
          subst hg
          subst ho
          have HC := hcut (off + k) (fun _ => rfl)
          go_end0
          refine ⟨rfl, .slice (some ⟨g, off + k, none⟩) (xs.length - k) (xs.length - k), (Blk.set_ hb1 3 _).drew, ?_, rfl, (ho1.set_ 3 _).drew⟩
          rw [NB.out]
          unfold Tm
          rw [List.length_drop, List.map_drop]
          exact (HC.setCell (p := ⟨b, 3, none⟩) hne _).drew
    · have hkl : k = xs.length := by omega
      have NB := Lib.hid (notBack_drop hk HA.out (fun h => absurd h hlt))
      by_cases hk0 : k = 0
      · subst hk0
        have dl : decide ((0 : Int) < (xs.length : Int)) = false := decide_eq_false (by omega)
        clear hkl
        go_wp2
        go_end0
        exact ⟨rfl, _, hb1, by rw [NB.out]; exact hx1, rfl, ho1⟩
      · have hkp : 0 < k := by omega
        obtain ⟨g, off, hA, _⟩ := tm_at hx1 rfl (k := 0) (by omega)
        subst hA
        have i0 : (0 : Int) ≤ (k : Int) := by omega
        have i1 : (k : Int) ≤ (xs.length : Int) := by omega
        have i2 : (xs.length : Int) ≤ (cap : Int) := by omega
        have dl : decide ((k : Int) < (xs.length : Int)) = false := decide_eq_false (by omega)
        have HK := Lib.hid hkl
        clear hkl
        go_wp2
        go_region
        go_wp2
        obtain ⟨g', off', hA, hcut⟩ := Lst.cut hx1 rfl hk (by omega)
        injection hA with hA
        injection hA with hg ho
        subst hg
        go_end0
        refine ⟨rfl, _, (Blk.set_ hb1 3 _).drew, ?_, rfl, (ho1.set_ 3 _).drew⟩
        rw [NB.out]
        unfold Tm
        rw [List.length_drop, List.map_drop]
        exact ((hcut _ (fun h => absurd h (by omega))).setCell (p := ⟨b, 3, none⟩) hne _).drew
/-- What is known of a budget behind a call that turned it: its cells, its list; of all else that there was nothing turned. -/
def Bud (w w' : World) (b base : Nat) (B P N : Int) (v : Value) (ys : List Int) : Prop := ∃ v', Sb w' b B P N v' ∧ Tm w' base v' ys ∧ v'.ownBlock = v.ownBlock ∧ Only b w w'
theorem left_tm (b base : Nat) (B P N : Int) (v : Value) (xs : List Int) (w : World) (hb : Sb w b B P N v) (hx : Tm w base v xs) (hB : 0 ≤ B ∧ B ≤ 200) (hn : (xs.length : Int) ≤ 1000) :
    Calls Try.prog 89 #[.pointer (some ⟨b, 0, none⟩)] w fun e w' => e = .returned (.int .i64 (B - xs.length)) ∧ ∃ k, w' = w.drewN k := by
  obtain ⟨A, cap, hv, _⟩ := Lst.shape hx
  subst hv
  exact left_any b B P N A xs.length cap w hb hB hn
theorem notBack_le (now : Int) (xs : List Int) : (notBack now xs).length ≤ xs.length := by
  unfold notBack
  induction xs with
  | nil => simp
  | cons x xs ih => rw [List.dropWhile_cons]; split <;> simp <;> omega
theorem Left_ok (b base : Nat) (B P N now : Int) (v : Value) (xs : List Int) (w : World) (hb : Sb w b B P N v) (hx : Tm w base v xs) (hB : 0 ≤ B ∧ B ≤ 200) (hn : xs.length ≤ 1000) (h1 : N ≤ now) (h2 : now < 4611686018427387904) :
    Calls Try.prog 74 #[.pointer (some ⟨b, 0, none⟩), .int .u64 now] w fun e w' => e = .returned (.tuple #[.int .i64 (B - (notBack now xs).length), .int .i64 0]) ∧ Bud w w' b base B P now v (notBack now xs) := by
  have hle := notBack_le now xs
  go_enter Try.func74, Try.ntmps74
  go_wp2_with fail
  refine (check_ok b B P N now v _ hb h1 h2).mono ?_
  rintro e w' ⟨rfl, rfl⟩
  go_wp2_with fail
  refine (goOn_any b base B P N now v xs _ hb hx hn).mono ?_
  rintro e w1 ⟨rfl, v', hb1, hx1, hv1, ho1⟩
  go_wp2_with fail
  refine (left_tm b base B P now v' (notBack now xs) _ hb1 hx1 hB (by omega)).mono ?_
  rintro e w2 ⟨rfl, k, rfl⟩
  go_wp2_with fail
  go_ret2
  exact ⟨rfl, v', hb1.drewN _, Lst.drewN hx1 _, hv1, ho1.drewN _⟩
theorem Left_hor (b : Nat) (now : Int) (w : World) (h2 : ¬ now < 4611686018427387904) :
    Calls Try.prog 74 #[.pointer (some ⟨b, 0, none⟩), .int .u64 now] w fun e w' => e = .returned (.tuple #[.int .i64 0, .int .i64 2]) ∧ w = w' := by
  go_enter Try.func74, Try.ntmps74
  go_wp2_with fail
  refine (check_hor b now _ (by omega)).mono ?_
  rintro e w' ⟨rfl, rfl⟩
  go_wp2_with fail
  go_ret2
  exact ⟨rfl, rfl⟩
theorem Left_arg (b : Nat) (B P N now : Int) (v : Value) (w : World) (hb : Sb w b B P N v) (h1 : now < N) (h2 : now < 4611686018427387904) :
    Calls Try.prog 74 #[.pointer (some ⟨b, 0, none⟩), .int .u64 now] w fun e w' => e = .returned (.tuple #[.int .i64 0, .int .i64 1]) ∧ w = w' := by
  go_enter Try.func74, Try.ntmps74
  go_wp2_with fail
  refine (check_arg b B P N now v _ hb h1 h2).mono ?_
  rintro e w' ⟨rfl, rfl⟩
  go_wp2_with fail
  go_ret2
  exact ⟨rfl, rfl⟩
theorem Try.infoU : (Try.prog.info? 22).map (fun i => (i.zero, i.size, i.bytes)) = some (some (.int .u64 0), 1, 8) := by kernel_rfl
theorem Use_no (b base : Nat) (B P N now : Int) (v : Value) (xs : List Int) (w : World) (hb : Sb w b B P N v) (hx : Tm w base v xs) (hB : 0 ≤ B ∧ B ≤ 200) (hn : xs.length ≤ 1000) (h1 : N ≤ now) (h2 : now < 4611686018427387904) (hl : B = (notBack now xs).length) :
    Calls Try.prog 72 #[.pointer (some ⟨b, 0, none⟩), .int .u64 now] w fun e w' => e = .returned (.tuple #[.bool false, .int .i64 0]) ∧ Bud w w' b base B P now v (notBack now xs) := by
  have HL := Lib.hid (show B - ((notBack now xs).length : Int) = 0 by omega)
  clear hl
  go_enter Try.func72, Try.ntmps72
  go_wp2_with fail
  refine (Left_ok b base B P N now v xs _ hb hx hB hn h1 h2).mono ?_
  rintro e w1 ⟨rfl, hbud⟩
  rw [HL.out]
  go_wp2_with fail
  go_ret2
  exact ⟨rfl, hbud⟩
/-- .. behind a use: the list may lie in a new block. -/
def Used (w w' : World) (b base : Nat) (B P N : Int) (v : Value) (ys : List Int) : Prop := ∃ v', Sb w' b B P N v' ∧ Tm w' base v' ys ∧ (v'.ownBlock = v.ownBlock ∨ ∃ g, v'.ownBlock = some g ∧ w.heap.size ≤ g) ∧ Two b v.ownBlock w w'
theorem used_close {b base : Nat} {B P N : Int} {v v' : Value} {ys : List Int} {t : Int} {w w1 w2 : World} {o : Obj} {A2 : Option Addr} {cap2 : Nat}
    (hl : ∀ g, v.ownBlock = some g → g < w.heap.size) (hb2 : Blk w2 b 122 #[.int .i64 B, .int .u64 P, .int .u64 N, v'])
    (hx2 : Lst w2 base 22 (.slice A2 (ys.length + 1) cap2) (ys.length + 1) (ys.map (Value.int .u64) ++ [.int .u64 t]))
    (hat : (Value.slice A2 (ys.length + 1) cap2).ownBlock = v'.ownBlock ∨ ∃ g, (Value.slice A2 (ys.length + 1) cap2).ownBlock = some g ∧ (w1.alloc o).drew.heap.size ≤ g)
    (hv1 : v'.ownBlock = v.ownBlock) (hne : v'.ownBlock ≠ some b) (hg2 : (w1.alloc o).drew.grownBy w2 v'.ownBlock) (ho1 : Only b w w1) (hb : b < w1.heap.size) :
    Used w (w2.setCell ⟨b, 3, none⟩ (.slice A2 (ys.length + 1) cap2)) b base B P N v (ys ++ [t]) := by
  have hs := ho1.size
  have hsz : w1.heap.size < (w1.alloc o).drew.heap.size := by show w1.heap.size < (w1.heap.push o).size; simp
  have hn2 : (Value.slice A2 (ys.length + 1) cap2).ownBlock ≠ some b := by
    rcases hat with h | ⟨g, h, hg⟩
    · rw [h]; exact hne
    · rw [h]; intro he; injection he with he; omega
  refine ⟨.slice A2 (ys.length + 1) cap2, ?_, ?_, ?_, ?_⟩
  · exact Blk.set_ hb2 3 (.slice A2 (ys.length + 1) cap2)
  · have := Lst.setCell hx2 (p := ⟨b, 3, none⟩) hn2 (.slice A2 (ys.length + 1) cap2)
    unfold Tm
    simpa using this
  · rcases hat with h | ⟨g, h, hg⟩
    · exact Or.inl (h.trans hv1)
    · exact Or.inr ⟨g, h, by omega⟩
  · have T := Two.of_grown hg2 b
    rw [hv1] at T
    exact ((((Two.of_only ho1 v.ownBlock).alloc o).drew).trans T).set_ 3 _
theorem Use_yes (b base : Nat) (B P N now : Int) (v : Value) (xs : List Int) (w : World) (hb : Sb w b B P N v) (hx : Tm w base v xs) (hB : 0 ≤ B ∧ B ≤ 200) (hn : xs.length ≤ 999) (h1 : N ≤ now) (h2 : now < 4611686018427387904) (h0 : 0 ≤ now) (hP : 0 ≤ P ∧ P ≤ 1099511627776)
    (hl : (notBack now xs).length < B) (hbase : base ≤ w.heap.size) :
    Calls Try.prog 72 #[.pointer (some ⟨b, 0, none⟩), .int .u64 now] w fun e w' => e = .returned (.tuple #[.bool true, .int .i64 0]) ∧ Used w w' b base B P now v (notBack now xs ++ [now + P]) := by
  have hle := notBack_le now xs
  have z0 : (B - ((notBack now xs).length : Int) == 0) = false := beq_eq_false_iff_ne.2 (by omega)
  obtain ⟨i0, hi, hz0, hz1, hz2⟩ := info_parts Try.infoU
  go_enter Try.func72, Try.ntmps72
  go_wp2_with fail
  refine (Left_ok b base B P N now v xs _ hb hx hB (by omega) h1 h2).mono ?_
  rintro e w1 ⟨rfl, v', hb1, hx1, hv1, ho1⟩
  have hne := hx1.ne_ hb1
  have c0 := hb1.c0
  have c1 := hb1.c1
  have c3 := hb1.c3
  have f3 := Blk.frozen hb1 3
  have hs1 := ho1.size
  have hblt := Blk.lt hb1
  have hxl : ∀ g, v.ownBlock = some g → g < w.heap.size := fun g hg => Lst.lt hx hg
  generalize hys : notBack now xs = ys at *
  have HY := Lib.hid hys
  clear hys
  have hsum : IntKind.u64.wrap (now + P) = now + P := IntWalk.u64_in _ ⟨by omega, by omega⟩
  have a3 := Sb.c3 (Blk.alloc hb1 (.cells #[.int .u64 (now + P)] 22))
  have a1 := Sb.c1 (Blk.alloc hb1 (.cells #[.int .u64 (now + P)] 22))
  go_wp2_with fail
  go_region_law ((refine step_push (by rfl) _ _ _ (by rfl) base 22 i0 (.int .u64 0) 8 Try.underlying35 hi hz0 hz1 hz2 (by rfl) v' ys.length (ys.map (Value.int .u64)) (by rfl) (by first | exact (Lst.alloc hx1 _) | exact (Lst.alloc hx1 _).drew | exact Lst.alloc (Lst.drew hx1) _) ⟨w1.heap.size, 0, none⟩ (.int .u64 (now + P)) (by rfl) (by simp) (by rfl) (by unfold maxLen; omega) (by omega) (by simp; omega) ?_; intro A2 cap2 w2 hx2 hg2 hat2; have hb2 := Blk.grown (by first | exact (Blk.alloc hb1 _) | exact (Blk.alloc hb1 _).drew | exact Blk.alloc (Blk.drew hb1) _) hg2 hne; have c32 := Sb.c3 hb2; have f32 := Blk.frozen hb2 3))
  all_goals (go_wp2_with fail)
  all_goals go_ret2
  all_goals exact ⟨rfl, by rw [HY.out]; exact used_close hxl hb2 hx2 hat2 hv1 hne hg2 ho1 (by omega)⟩
end Go.Proofs.Ytdemhhmceiaohaa
