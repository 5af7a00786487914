/-
  For every server and every list of 8-bit waits SporBack answers true, and changes nothing: a unit that was used is there again just a period later; used as often as may be the next one is there when it is told. No condition.
-/
import Derived.Test.YtnmkjonhoapkpaaRows
import Derived.Test.YtnmkjonhoapkpaaFr
import Derived.Test.YtnmkjonhoapkpaaSporL
import Derived.LoopTactic
namespace Go.Proofs.Ytnmkjonhoapkpaa.sporBack
open Go.ChangeShapes Go.WideShapes Go.ChangeAt Go.RowKit
set_option linter.unusedVariables false
theorem own : ownKnob Try.prog.godebug = none := by kernel_rfl
theorem laid : laidOutB Try.prog = true := by kernel_rfl
set_option maxRecDepth 100000
set_option maxHeartbeats 4000000
theorem nb_nil (a : Int) : notBack a [] = [] := rfl
theorem nb_cons_le {a x : Int} {xs : List Int} (h : x ≤ a) : notBack a (x :: xs) = notBack a xs := by unfold notBack; rw [List.dropWhile_cons, if_pos (by simpa using h)]
theorem nb_cons_lt {a x : Int} {xs : List Int} (h : a < x) : notBack a (x :: xs) = x :: xs := by unfold notBack; rw [List.dropWhile_cons, if_neg (by simp; omega)]
theorem nb_idem (a : Int) (xs : List Int) : notBack a (notBack a xs) = notBack a xs := by
  induction xs with
  | nil => rfl
  | cons x xs ih =>
    by_cases h : x ≤ a
    · rw [nb_cons_le h]; exact ih
    · rw [nb_cons_lt (by omega), nb_cons_lt (by omega)]
theorem nb_push {a t : Int} {ys : List Int} (h : notBack a ys = ys) (ht : a < t) : notBack a (ys ++ [t]) = ys ++ [t] := by
  cases ys with
  | nil => exact nb_cons_lt ht
  | cons y ys =>
    by_cases hy : y ≤ a
    · rw [nb_cons_le hy] at h
      have := notBack_le a ys
      rw [h] at this
      simp at this
      omega
    · exact nb_cons_lt (by omega)
theorem nb_all {a : Int} {xs : List Int} (h : ∀ x ∈ xs, x ≤ a) : notBack a xs = [] := by
  induction xs with
  | nil => rfl
  | cons x xs ih => rw [nb_cons_le (h x (by simp))]; exact ih fun y hy => h y (by simp [hy])
theorem nb_mem {a x : Int} {xs : List Int} (h : x ∈ notBack a xs) : x ∈ xs := by
  induction xs with
  | nil => exact h
  | cons y xs ih =>
    by_cases hy : y ≤ a
    · rw [nb_cons_le hy] at h; exact List.mem_cons_of_mem _ (ih h)
    · rw [nb_cons_lt (by omega)] at h; exact h
theorem next_now (b base : Nat) (B P N now : Int) (v : Value) (xs : List Int) (w : World) (hb : Sb w b B P N v) (hx : Tm w base v xs) (hB : 0 ≤ B ∧ B ≤ 200) (hn : xs.length ≤ B) (h0 : 0 ≤ now) (h1 : N ≤ now) (h2 : now < 4611686018427387904) (hl : (notBack now xs).length < B) :
    Calls Try.prog 13 #[.pointer (some ⟨b, 0, none⟩), .int .u64 now] w fun e w' => e = .returned (.tuple #[.int .u64 now, .int .i64 0]) ∧ Bud w w' b base B P now v (notBack now xs) := by
  by_cases hc : (xs.length : Int) < B
  · exact next_f b base B P N now 0 now v xs w hb hx hB (by omega) h1 h2 (first_less b base B P N v xs w hb hx hB (by omega) hc) (by rw [if_neg (by omega)]) h2
  · cases xs with
    | nil => simp at hc; simp [nb_nil] at hl; omega
    | cons x xs =>
      have hxn : x ≤ now := by
        rcases Int.lt_or_le now x with h | h
        · rw [nb_cons_lt h] at hl; omega
        · exact h
      exact next_f b base B P N now x now v (x :: xs) w hb hx hB (by omega) h1 h2 (first_full b base B P N v x xs w hb hx hB (by omega)) (by rw [if_neg (by omega)]) h2
theorem next_later (b base : Nat) (B P N now x : Int) (v : Value) (xs : List Int) (w : World) (hb : Sb w b B P N v) (hx : Tm w base v (x :: xs)) (hB : 0 ≤ B ∧ B ≤ 200) (hn : (x :: xs).length = B) (h1 : N ≤ now) (h2 : x < 4611686018427387904) (hl : now < x) :
    Calls Try.prog 13 #[.pointer (some ⟨b, 0, none⟩), .int .u64 now] w fun e w' => e = .returned (.tuple #[.int .u64 x, .int .i64 0]) ∧ Bud w w' b base B P now v (x :: xs) := by
  have := next_f b base B P N now x x v (x :: xs) w hb hx hB (by omega) h1 (by omega) (first_full b base B P N v x xs w hb hx hB (by omega)) (by rw [if_pos (by omega)]) h2
  rw [nb_cons_lt hl] at this
  exact this
theorem left_g (b base : Nat) (B P N now m : Int) (v : Value) (xs ys : List Int) (w : World) (hb : Sb w b B P N v) (hx : Tm w base v xs) (hB : 0 ≤ B ∧ B ≤ 200) (hn : xs.length ≤ B) (h1 : N ≤ now) (h2 : now < 4611686018427387904) (hy : notBack now xs = ys) (hm : B - ys.length = m) :
    Calls Try.prog 14 #[.pointer (some ⟨b, 0, none⟩), .int .u64 now] w fun e w' => e = .returned (.tuple #[.int .i64 m, .int .i64 0]) ∧ Bud w w' b base B P now v ys := by
  subst hy; subst hm; exact Left_ok b base B P N now v xs w hb hx hB (by omega) h1 h2
theorem use_g (b base : Nat) (B P N now : Int) (v : Value) (xs ys : List Int) (w : World) (hb : Sb w b B P N v) (hx : Tm w base v xs) (hB : 0 ≤ B ∧ B ≤ 200) (hn : xs.length ≤ B) (h1 : N ≤ now) (h2 : now < 4611686018427387904) (h0 : 0 ≤ now) (hP : 0 ≤ P ∧ P ≤ 1099511627776) (hl : ys.length < B) (hbase : base ≤ w.heap.size) (hy : notBack now xs = ys) :
    Calls Try.prog 10 #[.pointer (some ⟨b, 0, none⟩), .int .u64 now] w fun e w' => e = .returned (.tuple #[.bool true, .int .i64 0]) ∧ Used w w' b base B P now v (ys ++ [now + P]) := by
  subst hy; exact Use_yes b base B P N now v xs w hb hx hB (by omega) h1 h2 h0 hP hl hbase
theorem use_n (b base : Nat) (B P N now : Int) (v : Value) (xs ys : List Int) (w : World) (hb : Sb w b B P N v) (hx : Tm w base v xs) (hB : 0 ≤ B ∧ B ≤ 200) (hn : xs.length ≤ B) (h1 : N ≤ now) (h2 : now < 4611686018427387904) (hl : B = ys.length) (hy : notBack now xs = ys) :
    Calls Try.prog 10 #[.pointer (some ⟨b, 0, none⟩), .int .u64 now] w fun e w' => e = .returned (.tuple #[.bool false, .int .i64 0]) ∧ Bud w w' b base B P now v ys := by
  subst hy; exact Use_no b base B P N now v xs w hb hx hB (by omega) h1 h2 hl
theorem box_ne {w : World} {base g : Nat} {v : Value} {xs : List Int} {cs : Array Value} (h : Tm w base v xs) (hb : Blk w g 24 cs) : some g ≠ v.ownBlock := fun e => Lst.ne_ h hb (by decide) e.symm
theorem walk (B P : Int) (A : Option Addr) (n cap : Nat) (f : Nat → Int) (w : World) (bP : 0 ≤ P ∧ P ≤ 18446744073709551615) (hm : n ≤ maxLen) (rd : Rd w A n (fun i => .int .u8 (f i))) (hf : ∀ i, 0 ≤ f i ∧ f i ≤ 255) :
    Calls Try.prog 4 #[.agg #[.int .i64 B, .int .u64 P], .slice A n cap] w fun r w' => r = .returned (.bool true) ∧ Below w.heap.size w w' := by
  unfold maxLen at hm
  by_cases h : SOK B P
  · have hB : 1 ≤ B ∧ B ≤ 200 := ⟨h.1, h.2.1⟩
    have hPm : B ≤ P ∧ P ≤ 1099511627776 := h.2.2
    by_cases hq : 1048576 < P
    · have d1 : decide (1048576 < P) = true := decide_eq_true hq
      go_enter Try.func4, Try.ntmps4
      go_wp2_with fail
      refine (awake_any _).mono ?_
      rintro r w1 ⟨rfl, hw1⟩
      have hx1 := boxed_blk hw1
      obtain ⟨c1, e1⟩ := hx1.two
      have hs1 := below_box hw1
      go_wp2_with fail
      refine (smay_yes B P _ h).mono ?_
      rintro r w2 ⟨rfl, hw2⟩
      have hx2 := hx1.stay hw2
      obtain ⟨c2, e2⟩ := hx2.two
      go_wp2_with fail
      go_ret
      exact ⟨rfl, below_then hs1 hw2⟩
    · have d1 : decide (1048576 < P) = false := decide_eq_false hq
      by_cases hlen : 100 < n
      · have d2 : decide (100 < (n : Int)) = true := decide_eq_true (by omega)
        go_enter Try.func4, Try.ntmps4
        go_wp2_with fail
        refine (awake_any _).mono ?_
        rintro r w1 ⟨rfl, hw1⟩
        have hx1 := boxed_blk hw1
        obtain ⟨c1, e1⟩ := hx1.two
        have hs1 := below_box hw1
        go_wp2_with fail
        refine (smay_yes B P _ h).mono ?_
        rintro r w2 ⟨rfl, hw2⟩
        have hx2 := hx1.stay hw2
        obtain ⟨c2, e2⟩ := hx2.two
        go_wp2_with fail
        go_ret
        exact ⟨rfl, below_then hs1 hw2⟩
      · have d2 : decide (100 < (n : Int)) = false := decide_eq_false (by omega)
        go_enter Try.func4, Try.ntmps4
        go_wp2_with fail
        refine (awake_any _).mono ?_
        rintro r w1 ⟨rfl, hw1⟩
        have hx1 := boxed_blk hw1
        obtain ⟨c1, e1⟩ := hx1.two
        have hs1 := below_box hw1
        go_wp2_with fail
        refine (smay_yes B P _ h).mono ?_
        rintro r w2 ⟨rfl, hw2⟩
        have hx2 := hx1.stay hw2
        obtain ⟨c2, e2⟩ := hx2.two
        have hs2 := below_then hs1 hw2
        go_wp2_with fail
        refine (new_ok B P _ h).mono ?_
        rintro r w3 ⟨b, hbB, rfl, hb3, hw3⟩
        have hx3 := hx2.stay hw3
        have hs3 := below_then hs2 hw3
        have hbB2 : w.heap.size ≤ b := Nat.le_trans hs2.size hbB
        have hgb : w.heap.size ≠ b := by have := hx2.lt; omega
        have ht3 : Tm w3 w.heap.size (.slice none 0 0) [] := Lst.nil _ _ _
        clear c1 e1 c2 e2 d1 d2 hx1 hx2 hw1 hw2 hw3
        go_wp2_with fail
        go_loopw [7, 8] (fun nw i wr => ∃ k : Nat, ∃ now N : Int, ∃ v : Value, ∃ xs : List Int, k ≤ n ∧ i = .int .i64 k ∧ nw = .int .u64 now ∧ 0 ≤ N ∧ N ≤ now ∧ now ≤ 1048580 * k ∧ xs.length ≤ B ∧ (∀ x ∈ xs, x ≤ now + P) ∧ Sb wr b B P N v ∧ Tm wr w.heap.size v xs ∧ Blk wr w.heap.size 24 #[.int .i64 B, .int .u64 P] ∧ Below w.heap.size w wr) (fun _ i _ => n - (intOf i).toNat)
        case atStart => exact ⟨0, 0, 0, _, [], by omega, rfl, rfl, by omega, by omega, by omega, by simp; omega, by simp, hb3, ht3, hx3, hs3⟩
        case round =>
          obtain ⟨k, now, N, v, xs, hk, rfl, rfl, n0, n1, n2, hl, hall, hb, hx, hbox, hs⟩ := hrel
          obtain ⟨c1, e1⟩ := hbox.two
          by_cases hlt : k < n
          · obtain ⟨sb, off, rfl, hsb, hcell⟩ := rd (by omega)
            have fk := hf k
            have g0 : 0 ≤ f k % 5 := Int.emod_nonneg _ (by omega)
            have g1 : f k % 5 < 5 := Int.emod_lt_of_pos _ (by omega)
            by_cases hfree : (notBack now xs).length < B
            · have hid := nb_idem now xs
              have hmem : ∀ x ∈ notBack now xs, x ≤ now + P := fun x hx => hall x (nb_mem hx)
              have NX := Lib.hid (next_now b w.heap.size B P N now v xs wr hb hx (by omega) hl (by omega) n1 (by omega) hfree)
              generalize notBack now xs = ys at *
              have hpush := nb_push hid (show now < now + P by omega)
              obtain ⟨u, hu⟩ : ∃ u, B - (ys.length : Int) = u := ⟨_, rfl⟩
              have hu2 : B - ((ys ++ [now + P]).length : Int) = u - 1 := by simp; omega
              have hall2 : ∀ x ∈ ys ++ [now + P], x ≤ now + f k % 5 + P := by
                intro x hx
                rcases List.mem_append.1 hx with h | h
                · have := hmem x h; omega
                · simp at h; omega
              have hlen2 : ((ys ++ [now + P]).length : Int) ≤ B := by simp; omega
              have hu0 : 1 ≤ u ∧ u ≤ 200 := by omega
              have HID := Lib.hid hid
              have HU := Lib.hid hu
              have HU2 := Lib.hid hu2
              have HP := Lib.hid hpush
              have HA := Lib.hid hall2
              clear hid hu hu2 hpush hall2 hmem hall
              clear hcell
              go_wp2_with fail
              refine NX.out.mono ?_
              rintro r w4 ⟨rfl, v4, hb4, hx4, hv4, ho4⟩
              have hbox4 := ho4.blk hbox hgb
              have hs4 := only_below hs ho4 hbB2 (Nat.le_refl _)
              go_wp2_with fail
              refine (left_g b w.heap.size B P now now u v4 ys ys _ hb4 hx4 (by omega) (by omega) (by omega) (by omega) HID.out HU.out).mono ?_
              rintro r w5 ⟨rfl, v5, hb5, hx5, hv5, ho5⟩
              have hbox5 := ho5.blk hbox4 hgb
              have hs5 := only_below hs4 ho5 hbB2 (Nat.le_refl _)
              go_wp2_with fail
              refine (use_g b w.heap.size B P now now v5 ys ys _ hb5 hx5 (by omega) (by omega) (by omega) (by omega) (by omega) (by omega) (by omega) hs5.size HID.out).mono ?_
              rintro r w6 ⟨rfl, v6, hb6, hx6, hv6, ho6⟩
              have hbox6 := ho6.blk hbox5 hgb (box_ne hx5 hbox5)
              have hs6 := two_below hs5 ho6 hbB2 (fun k hk => Tm.own hx5 hk) (Nat.le_refl _)
              go_wp2_with fail
              refine (left_g b w.heap.size B P now now (u - 1) v6 (ys ++ [now + P]) (ys ++ [now + P]) _ hb6 hx6 (by omega) hlen2 (by omega) (by omega) HP.out HU2.out).mono ?_
              rintro r w7 ⟨rfl, v7, hb7, hx7, hv7, ho7⟩
              have hbox7 := ho7.blk hbox6 hgb
              have hs7 := only_below hs6 ho7 hbB2 (Nat.le_refl _)
              obtain ⟨sb', off', hse, hsb', hcell'⟩ := rd (by omega)
              have hx : w7.cell? ⟨sb, off + k, none⟩ = some (.int .u8 (f k)) := by
                injection hse with hse; injection hse with h1 h2; subst h1; subst h2
                exact (hs7.cell (p := ⟨sb, off + k, none⟩) hsb).trans (hcell' k hlt)
              clear hcell' hse
              go_wp2
              go_roundw
              case rel => exact ⟨k + 1, now + f k % 5, now, v7, ys ++ [now + P], by omega, by go_num, rfl, by omega, by omega, by omega, hlen2, HA.out, hb7, hx7, hbox7, hs7⟩
              case measure => simp [intOf]; omega
            · have hle := notBack_le now xs
              cases xs with
              | nil => simp [nb_nil] at hfree; omega
              | cons a tl =>
                have hna : now < a := by
                  rcases Int.lt_or_le now a with h | h
                  · exact h
                  · rw [nb_cons_le h] at hfree; have := notBack_le now tl; simp at hl; omega
                rw [nb_cons_lt hna] at hfree
                have haP : a ≤ now + P := hall a (by simp)
                have hlB : ((a :: tl).length : Int) = B := by omega
                have NX := Lib.hid (next_later b w.heap.size B P N now a v tl wr hb hx (by omega) hlB n1 (by omega) hna)
                have HN := Lib.hid (show notBack (a - 1) (a :: tl) = a :: tl from nb_cons_lt (by omega))
                obtain ⟨ys, hys⟩ : ∃ ys, notBack a (a :: tl) = ys := ⟨_, rfl⟩
                have hid : notBack a ys = ys := by rw [← hys]; exact nb_idem _ _
                have hyl : ((ys.length : Nat) : Int) < B := by
                  rw [← hys, nb_cons_le (Int.le_refl _)]; have := notBack_le a tl; simp at hlB; omega
                have hmem : ∀ x ∈ ys, x ≤ now + P := fun x hx => hall x (nb_mem (by rw [hys]; exact hx))
                have hpush := nb_push hid (show a < a + P by omega)
                obtain ⟨u, hu⟩ : ∃ u, B - (ys.length : Int) = u := ⟨_, rfl⟩
                have hu2 : B - ((ys ++ [a + P]).length : Int) = u - 1 := by simp; omega
                have hall2 : ∀ x ∈ ys ++ [a + P], x ≤ a + f k % 5 + P := by
                  intro x hx
                  rcases List.mem_append.1 hx with h | h
                  · have := hmem x h; omega
                  · simp at h; omega
                have hlen2 : ((ys ++ [a + P]).length : Int) ≤ B := by simp; omega
                have hu0 : 1 ≤ u ∧ u ≤ 200 := by omega
                have HID := Lib.hid hid
                have HY := Lib.hid hys
                have HU := Lib.hid hu
                have HU2 := Lib.hid hu2
                have HP := Lib.hid hpush
                have HA := Lib.hid hall2
                generalize a :: tl = zs at *
                clear hid hys hu hu2 hpush hall2 hmem hall hfree hle
                clear hcell
                go_wp2_with fail
                refine NX.out.mono ?_
                rintro r w4 ⟨rfl, v4, hb4, hx4, hv4, ho4⟩
                have hbox4 := ho4.blk hbox hgb
                have hs4 := only_below hs ho4 hbB2 (Nat.le_refl _)
                go_wp2_with fail
                refine (use_n b w.heap.size B P now (a - 1) v4 zs zs _ hb4 hx4 (by omega) (by omega) (by omega) (by omega) (by omega) HN.out).mono ?_
                rintro r w4' ⟨rfl, v4', hb4', hx4', hv4', ho4'⟩
                have hbox4' := ho4'.blk hbox4 hgb
                have hs4' := only_below hs4 ho4' hbB2 (Nat.le_refl _)
                go_wp2_with fail
                refine (left_g b w.heap.size B P (a - 1) a u v4' zs ys _ hb4' hx4' (by omega) (by omega) (by omega) (by omega) HY.out HU.out).mono ?_
                rintro r w5 ⟨rfl, v5, hb5, hx5, hv5, ho5⟩
                have hbox5 := ho5.blk hbox4' hgb
                have hs5 := only_below hs4' ho5 hbB2 (Nat.le_refl _)
                go_wp2_with fail
                refine (use_g b w.heap.size B P a a v5 ys ys _ hb5 hx5 (by omega) (by omega) (by omega) (by omega) (by omega) (by omega) (by omega) hs5.size HID.out).mono ?_
                rintro r w6 ⟨rfl, v6, hb6, hx6, hv6, ho6⟩
                have hbox6 := ho6.blk hbox5 hgb (box_ne hx5 hbox5)
                have hs6 := two_below hs5 ho6 hbB2 (fun k hk => Tm.own hx5 hk) (Nat.le_refl _)
                go_wp2_with fail
                refine (left_g b w.heap.size B P a a (u - 1) v6 (ys ++ [a + P]) (ys ++ [a + P]) _ hb6 hx6 (by omega) hlen2 (by omega) (by omega) HP.out HU2.out).mono ?_
                rintro r w7 ⟨rfl, v7, hb7, hx7, hv7, ho7⟩
                have hbox7 := ho7.blk hbox6 hgb
                have hs7 := only_below hs6 ho7 hbB2 (Nat.le_refl _)
                obtain ⟨sb', off', hse, hsb', hcell'⟩ := rd (by omega)
                have hx : w7.cell? ⟨sb, off + k, none⟩ = some (.int .u8 (f k)) := by
                  injection hse with hse; injection hse with h1 h2; subst h1; subst h2
                  exact (hs7.cell (p := ⟨sb, off + k, none⟩) hsb).trans (hcell' k hlt)
                clear hcell' hse
                go_wp2
                go_roundw
                case rel => exact ⟨k + 1, a + f k % 5, a, v7, ys ++ [a + P], by omega, by go_num, rfl, by omega, by omega, by omega, hlen2, HA.out, hb7, hx7, hbox7, hs7⟩
                case measure => simp [intOf]; omega
          · have HN := Lib.hid (nb_all hall)
            have HM := Lib.hid (show B - ((([] : List Int).length : Nat) : Int) = B by simp)
            clear hall
            go_wp2_with fail
            refine (left_g b w.heap.size B P N (now + P) B v xs [] _ hb hx (by omega) hl (by omega) (by omega) HN.out HM.out).mono ?_
            rintro r w4 ⟨rfl, v4, hb4, hx4, hv4, ho4⟩
            have hbox4 := ho4.blk hbox hgb
            obtain ⟨c4, e4⟩ := hbox4.two
            have hs4 := only_below hs ho4 hbB2 (Nat.le_refl _)
            go_wp2_with fail
            go_ret
            exact ⟨rfl, hs4⟩
  · go_enter Try.func4, Try.ntmps4
    go_wp2_with fail
    refine (awake_any _).mono ?_
    rintro r w1 ⟨rfl, hw1⟩
    have hx1 := boxed_blk hw1
    obtain ⟨c1, e1⟩ := hx1.two
    have hs1 := below_box hw1
    go_wp2_with fail
    refine (smay_no B P _ h bP.2).mono ?_
    rintro r w2 ⟨rfl, hw2⟩
    go_wp2_with fail
    go_ret
    exact ⟨rfl, below_then hs1 hw2⟩

set_option maxRecDepth 100000 in
theorem lifted (os : Os) (started : os.Started) (H : Type) (enc : TypeId × Value → H) :
    ReturnsInHanded {} Try.checked os 4 .any (Rows.sporBackSpec.pre6 enc Try.prog Try.f4 Rows.sporBackRow.domain false) (Rows.sporBackSpec.post enc Try.prog Try.f4 false true false false) := by
  refine law_lifted (C := Try.checked) (tb := 4) own started (by kernel_rfl) Try.func4
    (ChangeSpec.witness6 (enc := enc) (C := Try.checked) false ⟨#[], #[.agg #[.int .i64 0, .int .u64 0], .slice none 0 0], []⟩ 8 (by kernel_rfl) (by kernel_rfl) (by kernel_rfl) (by kernel_rfl)) laid (by kernel_rfl) (by kernel_rfl) Try.underlying4 rfl ?_
  intro W base args ds ps hval0 hA0 hlt
  have hval : ∀ (j : Nat) t v, Try.f4.params[j]? = some t → args[j]? = some v → Value.okWide Try.prog W .any base t v := hval0
  have hA : DataW.TrodAll enc Try.prog W 0 (fun _ => true) true Try.f4.params.toList args.toList ds ps := hA0
  clear hA0 hval0
  rw [Try.params4] at hA hval
  obtain ⟨v0, vs0, d0, ds0, p0, q0, hargs, rfl, rfl, h0, r0⟩ := trodAll_cons hA
  obtain ⟨v1, vs1, d1, ds1, p1, q1, rfl, rfl, rfl, h1, r1⟩ := trodAll_cons r0
  obtain ⟨rfl, rfl, rfl⟩ := trodAll_nil r1
  obtain rfl : args = #[v0, v1] := by cases args; simp_all
  obtain ⟨cs0, rfl, sz0, ok0⟩ := open_flat (ts := [3, 22]) (Or.inl ⟨_, Try.underlying24⟩) (by kernel_rfl) (by kernel_rfl) (hval 0 24 v0 rfl rfl)
  obtain ⟨c0_0, c0_1, rfl⟩ := size2 sz0
  obtain ⟨a0_0, rfl, w0_0⟩ := cell_int Try.underlying3 (ok0 0 _ _ rfl rfl)
  obtain ⟨a0_1, rfl, w0_1⟩ := cell_int Try.underlying22 (ok0 1 _ _ rfl rfl)
  obtain ⟨A1, n1, cap1, f1, rfl, le1, mx1, wf1, rd1⟩ := open_slice_ints Try.underlying37 Try.underlying5 (by kernel_rfl) (hval 1 37 v1 rfl rfl) h1
  refine ⟨⟨rfl, rfl, rfl⟩, ?_⟩
  have b0 := bounds_u64 w0_1
  exact walk a0_0 a0_1 A1 n1 cap1 f1 W b0 (by omega) rd1 (fun i => bounds_u8 (wf1 i))

theorem over : Rows.sporBackRow.holds Try.pinned (OpenSpec.ofChange Rows.sporBackSpec) :=
  OpenClaim.holds_of_wide 4 Try.f4 rfl rfl rfl rfl rfl rfl rfl ⟨rfl, rfl, rfl, rfl, rfl⟩ rfl rfl rfl rfl rfl (by kernel_rfl) Try.func4 (by kernel_rfl)
    (of_decide_eq_true (by kernel_rfl)) (by unfold Func.isWrapper; first | (rw [if_pos (by decide +kernel)]; kernel_rfl) | (rw [if_neg (by decide +kernel)]; exact ⟨rfl, rfl⟩))
    (fun os started H enc _ => lifted os started H enc)
theorem proved : Rows.SporBackSaid := over
#print axioms proved
end Go.Proofs.Ytnmkjonhoapkpaa.sporBack
