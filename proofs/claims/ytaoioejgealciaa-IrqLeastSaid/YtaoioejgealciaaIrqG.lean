/- Layer 13: the calls of a controller. -/
import Derived.Test.YtaoioejgealciaaIrqF
namespace Go.Proofs.Ytaoioejgealciaa
open Go.RowKit
set_option linter.unusedVariables false
set_option maxRecDepth 100000
set_option maxHeartbeats 2000000
section
variable {w0 w w1 w' : World} {S0 S : Nat → Prop} {L X N : List Res} {c n m i : Nat} {now t : Int} {ls : Nat → Ln} {gb bb : Nat → Nat} {R : Nat → Int}
theorem il_app : IL c n m now ls gb bb X ++ N = IL c n m now ls gb bb (X ++ N) := by unfold IL; simp [List.append_assoc]
theorem goAll_lt (hi : i < m) : goAll ls t m i = (ls i).goOn t := if_pos hi
theorem goAll_upd (hi : i < m) (l1 x : Ln) : updL (goAll (updL ls i l1) t m) i x = updL (goAll ls t m) i x := by
  funext j; unfold updL goAll
  by_cases h : j = i
  · rw [if_pos h, if_pos h]
  · simp only [if_neg h]
theorem il_less (h : St w0 S0 w (IL c n m now ls gb bb (X ++ N))) : St w0 S0 w (IL c n m now ls gb bb X) := by
  have h2 := h.take (IL c n m now ls gb bb X).length
  rw [← il_app, List.take_left] at h2
  exact h2
theorem enter_go (xs : Array Value) (W : World) : (callFunc 27 xs).run Try.prog W = .ok (.enter 27 xs) W := by
  go_simp
theorem enter_raise (xs : Array Value) (W : World) : (callFunc 25 xs).run Try.prog W = .ok (.enter 25 xs) W := by
  go_simp
theorem enter_ack (xs : Array Value) (W : World) : (callFunc 30 xs).run Try.prog W = .ok (.enter 30 xs) W := by
  go_simp
theorem enter_mask (xs : Array Value) (W : World) : (callFunc 33 xs).run Try.prog W = .ok (.enter 33 xs) W := by
  go_simp
theorem go1_c (a : Addr) (w : World) : Calls Try.prog 27 #[.pointer (some a)] w fun e w' => e = .returned (.tuple #[]) ∧ w' = w := by
  go_enter Try.func27, Try.ntmps27
  go_wp2_with fail
  go_end0
  exact ⟨rfl, rfl⟩
theorem Go_o (H : St w0 S0 w (IL c m m now ls gb bb X)) (hm : m ≤ 16) (hi : 0 < m) (hk : ∀ j, j < m → (ls j).ok now (R j)) (h0 : 0 ≤ now) (ht : now ≤ t) (hl : t < 4611686018427387904) :
    Calls Try.prog 12 #[.pointer (some ⟨c, 0, none⟩), .int .u64 t] w fun e w' => e = .returned (.int .i64 0) ∧ St w0 S0 w' (IL c m m t (goAll ls t m) gb bb X) := by
  have WB := Lib.hid (with_o H hm hi hk h0 ht hl (caps := #[]) (Q := fun w' => St w0 S0 w' (IL c m m t (goAll ls t m) gb bb X)) enter_go (fun w1 s1 => (go1_c _ w1).mono fun e w' ⟨he, hw⟩ => ⟨he, hw ▸ s1⟩))
  clear H hk
  go_enter Try.func12, Try.ntmps12
  go_wp2_with fail
  refine WB.out.mono ?_
  rintro e w2 ⟨rfl, s2⟩
  have S2 := Lib.hid s2
  clear s2 WB
  go_wp2_with fail
  go_ret
  exact ⟨rfl, S2.out⟩
theorem Go_late (H : St w0 S0 w (IL c m m now ls gb bb X)) (hm : m ≤ 16) (hi : 0 < m) (ht : t < now) (hl : t < 4611686018427387904) :
    Calls Try.prog 12 #[.pointer (some ⟨c, 0, none⟩), .int .u64 t] w fun e w' => e = .returned (.int .i64 1) ∧ w' = w := by
  have CH := Lib.hid (check_late H hi hm ht hl)
  clear H
  have WL : Calls Try.prog 24 #[.pointer (some ⟨c, 0, none⟩), .int .u64 t, .int .i64 0, .func (Fn.func 27) #[] #[]] w fun e w' => e = .returned (.int .i64 1) ∧ w' = w := by
    go_enter Try.func24, Try.ntmps24
    go_wp2_with (first | (go_at_call 28; refine CH.out.mono ?_; rintro e w' ⟨rfl, rfl⟩) | fail)
    go_ret
    exact ⟨rfl, rfl⟩
  have WB := Lib.hid WL
  clear WL CH
  go_enter Try.func12, Try.ntmps12
  go_wp2_with fail
  refine WB.out.mono ?_
  rintro e w2 ⟨rfl, rfl⟩
  go_wp2_with fail
  go_ret
  exact ⟨rfl, rfl⟩
theorem raise1_c {x0 : Value} {g1 g2 k : Nat} (H : St w0 S0 w (IL c m m now ls gb bb X)) (hm : m ≤ 16) (hi : i < m) {Ri : Int} (hk : (ls i).ok now Ri) (hN : (ls i).N = now) (hc : (ls i).cur now) (h0 : 0 ≤ now) (hl : now < 4611686018427387904) (hR : Ri + 1 ≤ 1000000000000)
    (x1 : X[k]? = some (BlkR g1 22 #[.int .u64 now])) (x2 : X[k + 1]? = some (BlkR g2 4 #[x0])) :
    Calls Try.prog 25 #[.pointer (some ⟨c, i * 13, none⟩), .pointer (some ⟨g1, 0, none⟩), .pointer (some ⟨g2, 0, none⟩)] w fun e w' => e = .returned (.tuple #[]) ∧ ∃ gb', St w0 S0 w' ((IL c m m now (updL ls i ((ls i).raise now).1) gb' bb X).set (1 + m + m + (k + 1)) (BlkR g2 4 #[.bool ((ls i).raise now).2])) := by
  have RC := Lib.hid (raise_o H hm hi hk hN hc h0 hl hR)
  have b1 := (H.blk _ (il_x x1)).one
  have HX2 := Lib.hid x2
  clear H hk hN hc hR x1 x2
  go_enter Try.func25, Try.ntmps25
  go_wp2_with fail
  refine RC.out.mono ?_
  rintro e w2 ⟨rfl, gb', s2⟩
  have b2 := (s2.blk _ (il_x HX2.out)).one
  have f2 := (s2.blk _ (il_x HX2.out)).frozen 0
  have S2 := Lib.hid s2
  clear s2 RC b1
  go_wp2_with fail
  go_end0
  exact ⟨rfl, gb', S2.out.set_ _ (il_x HX2.out) 0 _⟩
theorem Raise_o (H : St w0 S0 w (IL c m m now ls gb bb X)) (hm : m ≤ 16) (hi : i < m) (hk : ∀ j, j < m → (ls j).ok now (R j)) (h0 : 0 ≤ now) (ht : now ≤ t) (hl : t < 4611686018427387904) (hR : R i + 1 ≤ 1000000000000) :
    Calls Try.prog 11 #[.pointer (some ⟨c, 0, none⟩), .int .u64 t, .int .i64 (i : Int)] w fun e w' => e = .returned (.tuple #[.bool (((ls i).goOn t).raise t).2, .int .i64 0]) ∧ ∃ gb', St w0 S0 w' (IL c m m t (updL (goAll ls t m) i (((ls i).goOn t).raise t).1) gb' bb X) := by
  have h1 := (H.box 22 #[.int .u64 t]).box 4 #[.bool false]
  have ez : (w.alloc (.cells #[.int .u64 t] 22)).heap.size = w.heap.size + 1 := by simp
  rw [ez, il_app, il_app, List.append_assoc] at h1
  have x1 : (X ++ ([BlkR w.heap.size 22 #[.int .u64 t]] ++ [BlkR (w.heap.size + 1) 4 #[.bool false]]))[X.length]? = some (BlkR w.heap.size 22 #[.int .u64 t]) := by simp
  have x2 : (X ++ ([BlkR w.heap.size 22 #[.int .u64 t]] ++ [BlkR (w.heap.size + 1) 4 #[.bool false]]))[X.length + 1]? = some (BlkR (w.heap.size + 1) 4 #[.bool false]) := by rw [List.getElem?_append_right (by omega)]; simp
  have hci := goOn_cur (hk i hi) ht hl
  have hko := Ln.goOn_ok (hk i hi) (by omega) ht hl
  have WB := Lib.hid (with_o h1 hm hi hk h0 ht hl (caps := #[.pointer (some ⟨w.heap.size, 0, none⟩), .pointer (some ⟨w.heap.size + 1, 0, none⟩)])
    (Q := fun w' => ∃ gb', St w0 S0 w' ((IL c m m t (updL (goAll ls t m) i (((ls i).goOn t).raise t).1) gb' bb (X ++ ([BlkR w.heap.size 22 #[.int .u64 t]] ++ [BlkR (w.heap.size + 1) 4 #[.bool false]]))).set (1 + m + m + (X.length + 1)) (BlkR (w.heap.size + 1) 4 #[.bool (((ls i).goOn t).raise t).2])))
    enter_raise (fun w1 s1 => by
      have h := raise1_c (k := X.length) s1 hm hi (Ri := R i) (by rw [goAll_lt hi]; exact hko) (by rw [goAll_lt hi]; exact hci.2) (by rw [goAll_lt hi]; exact hci.1) (by omega) hl hR x1 x2
      rw [goAll_lt hi] at h
      exact h))
  have b0 : ((w.alloc (.cells #[.int .u64 t] 22)).alloc (.cells #[.bool false] 4)).cell? ⟨w.heap.size, 0, none⟩ = some (.int .u64 t) := (h1.blk _ (il_x x1)).one
  have HX := Lib.hid x1
  have HX2 := Lib.hid x2
  clear H h1 hci hko hk hR x1 x2
  go_enter Try.func11, Try.ntmps11
  go_wp2_with fail
  refine WB.out.mono ?_
  rintro e w2 ⟨rfl, gb', s2⟩
  have hx := il_x (c := c) (n := m) (m := m) (now := t) (ls := updL (goAll ls t m) i (((ls i).goOn t).raise t).1) (gb := gb') (bb := bb) HX2.out
  have q2 := (s2.blk (1 + m + m + (X.length + 1)) (by rw [List.getElem?_set_self (by rw [il_len]; simp)])).one
  have s3 : St w0 S0 w2 (IL c m m t (updL (goAll ls t m) i (((ls i).goOn t).raise t).1) gb' bb X) := by
    have h := s2.take (IL c m m t (updL (goAll ls t m) i (((ls i).goOn t).raise t).1) gb' bb X).length
    rw [List.take_set_of_le (by rw [il_len]; omega), ← il_app, List.take_left] at h
    exact h
  have S3 := Lib.hid s3
  clear s2 s3 WB b0 hx
  go_wp2_with fail
  go_ret2
  exact ⟨rfl, gb', S3.out⟩
theorem il_xset {k : Nat} {Q : Res} (hk : k < X.length) : (IL c n m now ls gb bb X).set (1 + m + m + k) Q = IL c n m now ls gb bb (X.set k Q) := by
  unfold IL
  rw [List.set_append_right _ _ (by simp; omega), List.set_append_right _ _ (by simp; omega)]
  have e : 1 + m + m + k - ([ArrR c 58 210 (cv n m now ls gb bb)] ++ (List.range m).map (IG ls gb)).length - ([] ++ (List.range m).map (IB ls bb)).length = k := by simp; omega
  rw [e]
theorem mask1_c {on : Bool} {g1 g2 k : Nat} (H : St w0 S0 w (IL c m m now ls gb bb X)) (hm : m ≤ 16) (hi : i < m) {Ri : Int} (hk : (ls i).ok now Ri) (h0 : 0 ≤ now) (hl : now < 4611686018427387904)
    (x1 : X[k]? = some (BlkR g1 22 #[.int .u64 now])) (x2 : X[k + 1]? = some (BlkR g2 4 #[.bool on])) :
    Calls Try.prog 33 #[.pointer (some ⟨c, i * 13, none⟩), .pointer (some ⟨g2, 0, none⟩), .pointer (some ⟨g1, 0, none⟩)] w fun e w' => e = .returned (.tuple #[]) ∧ St w0 S0 w' (IL c m m now (updL ls i ((ls i).mask now on)) gb bb X) := by
  have b2 := (H.blk _ (il_x x2)).one
  have a10 := il_at H hm hi (f := 10) (by decide)
  have f10 := il_frozen H (i * 13 + 10)
  have u1 := il_put (l' := { ls i with masked := on }) hm hi (f := 10) (by decide) H (.bool on) rfl (lc10 (ls i) _ _ _) ⟨rfl, rfl, rfl, rfl⟩ rfl
  have b1 := (u1.blk _ (il_x x1)).one
  have hx : ({ ls i with masked := on } : Ln).ok now Ri := ⟨hk.may, hk.g, hk.gn, hk.b, hk.bn, hk.h0, hk.p0, hk.w0, hk.r0, hk.sum, hk.rs, hk.big⟩
  have D := deliver_o u1 hm hi (t := now) (t0 := now) (R := Ri) (by rw [updL_same]; exact hx) (Int.le_refl _) hl
  rw [updL_same, updL_twice] at D
  have DD := Lib.hid D
  clear H hk hx u1 D x1 x2
  go_enter Try.func33, Try.ntmps33
  go_wp2_with fail
  refine DD.out.mono ?_
  rintro e w2 ⟨rfl, s2⟩
  have S2 := Lib.hid s2
  clear s2 DD
  go_wp2_with fail
  go_end0
  exact ⟨rfl, S2.out⟩
theorem Mask_o (on : Bool) (H : St w0 S0 w (IL c m m now ls gb bb X)) (hm : m ≤ 16) (hi : i < m) (hk : ∀ j, j < m → (ls j).ok now (R j)) (h0 : 0 ≤ now) (ht : now ≤ t) (hl : t < 4611686018427387904) :
    Calls Try.prog 16 #[.pointer (some ⟨c, 0, none⟩), .int .u64 t, .int .i64 (i : Int), .bool on] w fun e w' => e = .returned (.int .i64 0) ∧ St w0 S0 w' (IL c m m t (updL (goAll ls t m) i (((ls i).goOn t).mask t on)) gb bb X) := by
  have h1 := (H.box 22 #[.int .u64 t]).box 4 #[.bool on]
  have ez : (w.alloc (.cells #[.int .u64 t] 22)).heap.size = w.heap.size + 1 := by simp
  rw [ez, il_app, il_app, List.append_assoc] at h1
  have x1 : (X ++ ([BlkR w.heap.size 22 #[.int .u64 t]] ++ [BlkR (w.heap.size + 1) 4 #[.bool on]]))[X.length]? = some (BlkR w.heap.size 22 #[.int .u64 t]) := by simp
  have x2 : (X ++ ([BlkR w.heap.size 22 #[.int .u64 t]] ++ [BlkR (w.heap.size + 1) 4 #[.bool on]]))[X.length + 1]? = some (BlkR (w.heap.size + 1) 4 #[.bool on]) := by rw [List.getElem?_append_right (by omega)]; simp
  have hko := Ln.goOn_ok (hk i hi) (by omega) ht hl
  have WB := Lib.hid (with_o h1 hm hi hk h0 ht hl (caps := #[.pointer (some ⟨w.heap.size + 1, 0, none⟩), .pointer (some ⟨w.heap.size, 0, none⟩)])
    (Q := fun w' => St w0 S0 w' (IL c m m t (updL (goAll ls t m) i (((ls i).goOn t).mask t on)) gb bb X))
    enter_mask (fun w1 s1 => by
      have h := mask1_c (on := on) (k := X.length) s1 hm hi (Ri := R i) (by rw [goAll_lt hi]; exact hko) (by omega) hl x1 x2
      rw [goAll_lt hi] at h
      exact h.mono fun e w' ⟨he, hs⟩ => ⟨he, il_less hs⟩))
  have b0 : ((w.alloc (.cells #[.int .u64 t] 22)).alloc (.cells #[.bool on] 4)).cell? ⟨w.heap.size, 0, none⟩ = some (.int .u64 t) := (h1.blk _ (il_x x1)).one
  clear H h1 hko hk x1 x2
  go_enter Try.func16, Try.ntmps16
  go_wp2_with fail
  refine WB.out.mono ?_
  rintro e w2 ⟨rfl, s2⟩
  have S2 := Lib.hid s2
  clear s2 WB b0
  go_wp2_with fail
  go_ret
  exact ⟨rfl, S2.out⟩
theorem ack1_c {x0 : Value} {g1 g2 k : Nat} (H : St w0 S0 w (IL c m m now ls gb bb X)) (hm : m ≤ 16) (hi : i < m) {Ri : Int} (hk : (ls i).ok now Ri) (h0 : 0 ≤ now) (hl : now < 4611686018427387904)
    (x1 : X[k]? = some (BlkR g1 22 #[.int .u64 now])) (x2 : X[k + 1]? = some (BlkR g2 3 #[x0])) :
    Calls Try.prog 30 #[.pointer (some ⟨c, i * 13, none⟩), .pointer (some ⟨g2, 0, none⟩), .pointer (some ⟨g1, 0, none⟩)] w fun e w' => e = .returned (.tuple #[]) ∧ St w0 S0 w' (IL c m m now (updL ls i ((ls i).ack now)) gb bb (X.set (k + 1) (BlkR g2 3 #[.int .i64 (ls i).pends]))) := by
  have hlen : k + 1 < X.length := (List.getElem?_eq_some_iff.1 x2).1
  have a9 : w.cell? ⟨c, i * 13 + 9, none⟩ = some (.int .i64 (ls i).pends) := il_at H hm hi (f := 9) (by decide)
  have b2 := (H.blk _ (il_x x2)).one
  have f2 := (H.blk _ (il_x x2)).frozen 0
  have v1 := H.set_ _ (il_x x2) 0 (.int .i64 (ls i).pends)
  rw [il_xset hlen] at v1
  have v1 : St w0 S0 (w.setCell ⟨g2, 0, none⟩ (.int .i64 (ls i).pends)) (IL c m m now ls gb bb (X.set (k + 1) (BlkR g2 3 #[.int .i64 (ls i).pends]))) := v1
  have y1 : (X.set (k + 1) (BlkR g2 3 #[.int .i64 (ls i).pends]))[k]? = some (BlkR g1 22 #[.int .u64 now]) := by rw [List.getElem?_set_ne (by omega)]; exact x1
  have d9 := il_at v1 hm hi (f := 9) (by decide)
  have f9 := il_frozen v1 (i * 13 + 9)
  have u1 := il_put (l' := { ls i with pends := 0 }) hm hi (f := 9) (by decide) v1 (.int .i64 0) rfl (lc9 (ls i) _ _ _) ⟨rfl, rfl, rfl, rfl⟩ rfl
  have b1 := (u1.blk _ (il_x y1)).one
  have hx : ({ ls i with pends := 0 } : Ln).ok now Ri := ⟨hk.may, hk.g, hk.gn, hk.b, hk.bn, hk.h0, Int.le_refl _, hk.w0, hk.r0, by have h1 := hk.sum; have h2 := hk.p0; show (ls i).held + 0 + ((ls i).ws.length : Int) ≤ Ri; omega, hk.rs, hk.big⟩
  have D := deliver_o u1 hm hi (t := now) (t0 := now) (R := Ri) (by rw [updL_same]; exact hx) (Int.le_refl _) hl
  rw [updL_same, updL_twice] at D
  have DD := Lib.hid D
  clear H hk hx u1 v1 D x1 x2 y1
  go_enter Try.func30, Try.ntmps30
  go_wp2_with fail
  refine DD.out.mono ?_
  rintro e w2 ⟨rfl, s2⟩
  have S2 := Lib.hid s2
  clear s2 DD
  go_wp2_with fail
  go_end0
  exact ⟨rfl, S2.out⟩
/-- What an acknowledgment answers, and how the lines stand then. -/
def AckP (w0 : World) (S0 : Nat → Prop) (c m : Nat) (now t : Int) (ls : Nat → Ln) (gb bb : Nat → Nat) (X : List Res) (i : Nat) (a f : Int) (w' : World) : Prop :=
  ∃ l1, (l1 = ls i ∨ l1 = (ls i).fresh now) ∧
      ((f = 0 ∧ (ls i).masked = false ∧ 0 < a ∧ a = (l1.goOn t).pends ∧ St w0 S0 w' (IL c m m t (updL (goAll ls t m) i ((l1.goOn t).ack t)) gb bb X)) ∨
       (f = 12 ∧ a = 0 ∧ ((ls i).masked = true ∨ (ls i).pends = 0) ∧ St w0 S0 w' (IL c m m now (updL ls i l1) gb bb X)))
theorem Ack_o (H : St w0 S0 w (IL c m m now ls gb bb X)) (hm : m ≤ 16) (hi : i < m) (hk : ∀ j, j < m → (ls j).ok now (R j)) (h0 : 0 ≤ now) (ht : now ≤ t) (hl : t < 4611686018427387904) (hb : now < 1152921504606846976) :
    Calls Try.prog 13 #[.pointer (some ⟨c, 0, none⟩), .int .u64 t, .int .i64 (i : Int)] w fun e w' => ∃ a f, e = .returned (.tuple #[.int .i64 a, .int .i64 f]) ∧ AckP w0 S0 c m now t ls gb bb X i a f w' := by
  have h1 := H.box 22 #[.int .u64 t]
  rw [il_app] at h1
  have x1 : (X ++ [BlkR w.heap.size 22 #[.int .u64 t]])[X.length]? = some (BlkR w.heap.size 22 #[.int .u64 t]) := by simp
  have b0 : (w.alloc (.cells #[.int .u64 t] 22)).cell? ⟨w.heap.size, 0, none⟩ = some (.int .u64 t) := (h1.blk _ (il_x x1)).one
  have b0' : (w.alloc (.cells #[.int .u64 t] 22)).drew.cell? ⟨w.heap.size, 0, none⟩ = some (.int .u64 t) := (h1.drew.blk _ (il_x x1)).one
  have c209 : (w.alloc (.cells #[.int .u64 t] 22)).drew.cell? ⟨c, 209, none⟩ = some (.int .u64 now) := il_now h1.drew
  have CH := Lib.hid (check_ok h1 hi hm ht hl)
  have WP := Lib.hid (willPend_o h1.drew hm hi (hk i hi) h0 ht hl hb)
  have HK := Lib.hid hk
  have HX1 := Lib.hid x1
  have i0 : (0 : Int) ≤ (i : Int) := by omega
  have i1 : (i : Int) < 16 := by omega
  clear H h1 hk x1
  go_enter Try.func13, Try.ntmps13
  go_wp2_with (first | (go_at_call 28; refine CH.out.mono ?_; rintro e w' ⟨rfl, rfl⟩) | fail)
  have pp := And.intro b0' c209
  go_region_held3 (fun W => W.cell? ⟨w.heap.size, 0, none⟩ = some (.int .u64 t) ∧ W.cell? ⟨c, 209, none⟩ = some (.int .u64 now)) (go_keep)
    (first
      | (go_at_call 29; refine WP.out.mono ?_; rintro r' w6 ⟨r, l1, rfl, hl1, s6, hT, hF⟩; have q6 : w6.cell? ⟨w.heap.size, 0, none⟩ = some (.int .u64 t) := (s6.blk _ (il_x HX1.out)).one; have q7 : w6.cell? ⟨c, 209, none⟩ = some (.int .u64 now) := il_now s6; have S6 := Lib.hid s6; have HL1 := Lib.hid hl1; have HT := Lib.hid hT; have HF := Lib.hid hF; clear s6 hl1 hT hF))
  clear pp b0 b0' c209 CH WP
  cases r with
  | false =>
    have HG := Lib.hid (HF.out rfl)
    clear HF HT
    go_wp2_with fail
    go_ret2
    exact ⟨_, _, rfl, l1, HL1.out, Or.inr ⟨rfl, rfl, HG.out, il_less S6.out⟩⟩
  | true =>
    have HG := Lib.hid (HT.out rfl)
    clear HF HT
    have h2 := S6.out.box 3 #[.int .i64 0]
    rw [il_app, List.append_assoc] at h2
    have x1 : (X ++ ([BlkR w.heap.size 22 #[.int .u64 t]] ++ [BlkR w6.heap.size 3 #[.int .i64 0]]))[X.length]? = some (BlkR w.heap.size 22 #[.int .u64 t]) := by simp
    have x2 : (X ++ ([BlkR w.heap.size 22 #[.int .u64 t]] ++ [BlkR w6.heap.size 3 #[.int .i64 0]]))[X.length + 1]? = some (BlkR w6.heap.size 3 #[.int .i64 0]) := by rw [List.getElem?_append_right (by omega)]; simp
    have hk1 : ∀ j, j < m → (updL ls i l1 j).ok now (R j) := fun j hj => by
      unfold updL
      by_cases h : j = i
      · rw [if_pos h]; subst h; rcases HL1.out with e | e
        · rw [e]; exact HK.out j hj
        · rw [e]; exact Ln.fresh_ok (HK.out j hj) h0
      · rw [if_neg h]; exact HK.out j hj
    have hko := Ln.goOn_ok (hk1 i hi) (by omega) ht hl
    rw [updL_same] at hko
    have WB := Lib.hid (with_o h2 hm hi hk1 h0 ht hl (caps := #[.pointer (some ⟨w6.heap.size, 0, none⟩), .pointer (some ⟨w.heap.size, 0, none⟩)])
      (Q := fun w' => St w0 S0 w' (IL c m m t (updL (goAll ls t m) i ((l1.goOn t).ack t)) gb bb (X ++ ([BlkR w.heap.size 22 #[.int .u64 t]] ++ [BlkR w6.heap.size 3 #[.int .i64 (l1.goOn t).pends]]))))
      enter_ack (fun w1 s1 => by
        have h := ack1_c (k := X.length) s1 hm hi (Ri := R i) (by rw [goAll_lt hi, updL_same]; exact hko) (by omega) hl x1 x2
        rw [goAll_lt hi, updL_same, goAll_upd hi, List.set_append_right _ _ (by omega), show X.length + 1 - X.length = 1 by omega] at h
        exact h))
    have b0 : (w6.alloc (.cells #[.int .i64 0] 3)).cell? ⟨w.heap.size, 0, none⟩ = some (.int .u64 t) := (h2.blk _ (il_x x1)).one
    have b1 : (w6.alloc (.cells #[.int .i64 0] 3)).cell? ⟨w6.heap.size, 0, none⟩ = some (.int .i64 0) := (h2.blk _ (il_x x2)).one
    have f1 : (w6.alloc (.cells #[.int .i64 0] 3)).frozen? ⟨w6.heap.size, 0, none⟩ = false := (h2.blk _ (il_x x2)).frozen 0
    clear h2 x1 x2 hk1 hko
    go_wp2_with fail
    refine WB.out.mono ?_
    rintro e w8 ⟨rfl, s8⟩
    have y2 : (X ++ ([BlkR w.heap.size 22 #[.int .u64 t]] ++ [BlkR w6.heap.size 3 #[.int .i64 (l1.goOn t).pends]]))[X.length + 1]? = some (BlkR w6.heap.size 3 #[.int .i64 (l1.goOn t).pends]) := by rw [List.getElem?_append_right (by omega)]; simp
    have q8 := (s8.blk _ (il_x y2)).one
    have S8 := Lib.hid (il_less s8)
    clear s8 WB b0 b1 f1 y2
    go_wp2_with fail
    go_ret2
    exact ⟨_, _, rfl, l1, HL1.out, Or.inl ⟨rfl, HG.out.1, HG.out.2, rfl, S8.out⟩⟩
end
end Go.Proofs.Ytaoioejgealciaa
