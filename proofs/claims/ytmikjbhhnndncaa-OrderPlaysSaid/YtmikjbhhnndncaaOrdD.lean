/- Layer 18: the least time; what is sought. -/
import Derived.Test.YtmikjbhhnndncaaOrdC
import Derived.Deep.QuietTactic
namespace Go.Proofs.Ytmikjbhhnndncaa
open Go.RowKit
set_option linter.unusedVariables false
set_option maxRecDepth 100000
set_option maxHeartbeats 1000000
def fD (l : List Wt) (k : Nat) : Int := firstD (l.take k)
theorem fD_zero (l : List Wt) : fD l 0 = 4611686018427387904 := rfl
theorem fD_succ {l : List Wt} {k : Nat} {x : Wt} (h : l[k]? = some x) : fD l (k + 1) = if x.dead < fD l k then x.dead else fD l k := by
  have hk := (List.getElem?_eq_some_iff.1 h).1
  have e : l.take (k + 1) = l.take k ++ [x] := by
    rw [List.take_succ_eq_append_getElem hk]
    rw [(List.getElem?_eq_some_iff.1 h).2]
  unfold fD firstD
  rw [e, List.foldl_append]; rfl
theorem fD_bd (s : OSt) (hs : s.ok) : ∀ k, k ≤ s.l.length → 0 ≤ fD s.l k ∧ fD s.l k ≤ 4611686018427387904
  | 0, _ => by rw [fD_zero]; omega
  | k + 1, h => by
    obtain ⟨x, hx⟩ : ∃ x, s.l[k]? = some x := ⟨_, List.getElem?_eq_getElem (by omega)⟩
    have := hs.may x (List.mem_of_getElem? hx)
    have ih := fD_bd s hs k (by omega)
    rw [fD_succ hx]
    split
    · exact ⟨this.2.1.1, by omega⟩
    · exact ih
theorem fD_all (l : List Wt) : fD l l.length = firstD l := by unfold fD; rw [List.take_length]
section
variable {w0 w w' : World} {S0 S : Nat → Prop} {N L : List Res} {q : Nat} {s s' : OSt}
theorem first_c (H : St w0 S0 w L) (i : Nat) {A : Option Addr} {c n : Nat} (hn : n = s.l.length) (hq : L[i]? = some (BlkR q 55 #[.slice A n c, .int .i64 s.head, .bool s.up])) (j : Nat) (hj : L[j]? = some (LisR 32 3 (.slice A n c) n (ovs s.l))) (hs : s.ok) :
    Calls Try.prog 46 #[.pointer (some ⟨q, 0, none⟩)] w fun e w' => e = .returned (.int .u64 (firstD s.l)) ∧ Below w.heap.size w w' := by
  have q0 := (H.blk i hq).three.1
  have hlen := hs.len
  have hcap : n ≤ c ∧ c ≤ maxLen := by
    obtain ⟨A', c', hv, h1, h2⟩ := (H.lis j hj).shape
    injection hv with _ _ hv
    subst hv; exact ⟨h1, h2⟩
  unfold maxLen at hcap
  have HH := Lib.hid H
  have HS := Lib.hid hs
  have HN := Lib.hid hn
  have hn64 : n ≤ 64 := by omega
  clear H hs hn hlen
  go_enter Try.func46, Try.ntmps46
  go_wp2_with fail
  go_loopw [3, 11] (fun m t wr => ∃ k : Nat, k ≤ n ∧ t = .int .i64 (k : Int) ∧ m = .int .u64 (fD s.l k) ∧ Below w.heap.size w wr) (fun _ t _ => n - (intOf t).toNat)
  case atStart => exact ⟨0, by omega, rfl, by rw [fD_zero], Below.refl _ _⟩
  case round =>
  obtain ⟨k, hk, rfl, rfl, hb⟩ := hrel
  have sr := HH.out.stay hb
  have HB := Lib.hid hb
  have hbd := fD_bd s HS.out k (by rw [← HN.out]; exact hk)
  by_cases hkn : k < n
  · obtain ⟨x, hx⟩ : ∃ x, s.l[k]? = some x := ⟨_, List.getElem?_eq_getElem (by rw [← HN.out]; exact hkn)⟩
    obtain ⟨b, o, rfl, -, m0, m1, m2⟩ := want_at (sr.lis j hj) hx
    have t1 : decide ((k : Int) < (n : Int)) = true := decide_eq_true (by omega)
    have t1' : decide (k < n) = true := decide_eq_true hkn
    have HF := Lib.hid (fD_succ hx)
    have hx2 := (HS.out.may x (List.mem_of_getElem? hx)).2.1
    have HB2 := Lib.hid (hb.trans (((Below.refl wr.heap.size wr).alloc (Nat.le_refl _) (.cells #[.int .i64 x.id, .int .u64 x.dead, .int .i64 x.track] 32)).mono hb.size))
    by_cases hl : x.dead < fD s.l k
    · have HE := Lib.hid (show fD s.l (k + 1) = x.dead by rw [HF.out, if_pos hl])
      clear hx sr hb HF
      generalize fD s.l k = fk at *
      have e1 : (if fk < x.dead then fk else x.dead) = x.dead := if_neg (by omega)
      have e2 : (if x.dead < fk then x.dead else fk) = x.dead := if_pos hl
      go_wp2_with fail
      go_roundw
      case rel => exact ⟨k + 1, by omega, by go_num, by rw [HE.out], HB2.out⟩
      case measure => simp [intOf]; omega
    · have HE := Lib.hid (show fD s.l (k + 1) = fD s.l k by rw [HF.out, if_neg hl])
      clear hx sr hb HF
      generalize fD s.l k = fk at *
      have e1 : (if fk < x.dead then fk else x.dead) = fk := by split <;> omega
      have e2 : (if x.dead < fk then x.dead else fk) = fk := if_neg hl
      go_wp2_with fail
      go_roundw
      case rel => exact ⟨k + 1, by omega, by go_num, by rw [HE.out], HB2.out⟩
      case measure => simp [intOf]; omega
  · obtain rfl : k = n := by omega
    have t1 : decide ((k : Int) < (k : Int)) = false := decide_eq_false (by omega)
    have t1' : decide (k < k) = false := decide_eq_false (by omega)
    have HE := Lib.hid (show fD s.l k = firstD s.l by rw [HN.out, fD_all])
    clear sr hb
    generalize fD s.l k = fk at *
    go_wp2_with fail
    go_ret
    exact ⟨by rw [← HE.out]; rfl, HB.out⟩
/-- The closure of nearest. -/
theorem sought_c (x : Wt) (p1 p2 p3 : Nat) (head first : Int) (up : Bool) (w : World) (h1 : w.cell? ⟨p1, 0, none⟩ = some (.pointer (some ⟨q, 0, none⟩))) (h2 : w.cell? ⟨p2, 0, none⟩ = some (.bool up)) (h3 : w.cell? ⟨p3, 0, none⟩ = some (.int .u64 first))
    (hq : w.cell? ⟨q, 1, none⟩ = some (.int .i64 head)) (hx : mayW x) (hh : 0 ≤ head ∧ head ≤ 1048576) (b : Bool) (hb : b = decide (x.dead = first ∧ 0 ≤ off up head x.track)) :
    Calls Try.prog 48 #[x.v, .pointer (some ⟨p1, 0, none⟩), .pointer (some ⟨p2, 0, none⟩), .pointer (some ⟨p3, 0, none⟩)] w fun e w' => e = .returned (.tuple #[.int .i64 (off up head x.track), .bool b]) ∧ Below w.heap.size w w' := by
  obtain ⟨q0, q1, q2⟩ := (Blk.new w 32 #[.int .i64 x.id, .int .u64 x.dead, .int .i64 x.track]).three
  have k1 := cell_alloc h1 (.cells #[.int .i64 x.id, .int .u64 x.dead, .int .i64 x.track] 32)
  have k2 := cell_alloc h2 (.cells #[.int .i64 x.id, .int .u64 x.dead, .int .i64 x.track] 32)
  have k3 := cell_alloc h3 (.cells #[.int .i64 x.id, .int .u64 x.dead, .int .i64 x.track] 32)
  have kq := cell_alloc hq (.cells #[.int .i64 x.id, .int .u64 x.dead, .int .i64 x.track] 32)
  unfold Wt.v
  have hx3 := hx.2.2
  have AB := Lib.hid ((Below.refl w.heap.size w).alloc (Nat.le_refl _) (.cells #[.int .i64 x.id, .int .u64 x.dead, .int .i64 x.track] 32))
  have HBB := Lib.hid hb
  clear h1 h2 h3 hq hb hx
  have hw : IntKind.i64.wrap (x.track - head) = x.track - head := IntWalk.i64_in _ ⟨by omega, by omega⟩
  cases up with
  | true =>
    by_cases hd : x.dead = first
    · subst hd
      have d1 : (x.dead == x.dead) = true := beq_self_eq_true _
      by_cases ho : 0 ≤ x.track - head
      · have d2 : decide (0 ≤ x.track - head) = true := decide_eq_true ho
        have d3 : decide (head ≤ x.track) = true := decide_eq_true (by omega)
        have HR := Lib.hid (show b = true from by rw [HBB.out]; exact decide_eq_true ⟨rfl, by show 0 ≤ x.track - head; omega⟩)
        have HO := Lib.hid (show off true head x.track = x.track - head from by simp only [off]; rfl)
        clear HBB
        go_enter Try.func48, Try.ntmps48
        go_wp2_with fail
        go_quiet (fail)
        go_wp2_with fail
        go_ret2
        exact ⟨by rw [HR.out, HO.out]; rfl, below_drewN AB.out _⟩
      · have d2 : decide (0 ≤ x.track - head) = false := decide_eq_false ho
        have d3 : decide (head ≤ x.track) = false := decide_eq_false (by omega)
        have HR := Lib.hid (show b = false from by rw [HBB.out]; exact decide_eq_false (fun h => ho (by have h2 : 0 ≤ x.track - head := h.2; omega)))
        have HO := Lib.hid (show off true head x.track = x.track - head from by simp only [off]; rfl)
        clear HBB
        go_enter Try.func48, Try.ntmps48
        go_wp2_with fail
        go_quiet (fail)
        go_wp2_with fail
        go_ret2
        exact ⟨by rw [HR.out, HO.out]; rfl, below_drewN AB.out _⟩
    · have d1 : (x.dead == first) = false := beq_eq_false_iff_ne.2 hd
      have HR := Lib.hid (show b = false from by rw [HBB.out]; exact decide_eq_false (fun h => hd h.1))
      have HO := Lib.hid (show off true head x.track = x.track - head from by simp only [off]; rfl)
      clear HBB
      go_enter Try.func48, Try.ntmps48
      go_wp2_with fail
      go_quiet (fail)
      go_wp2_with fail
      go_ret2
      exact ⟨by rw [HR.out, HO.out]; rfl, below_drewN AB.out _⟩
  | false =>
    by_cases hd : x.dead = first
    · subst hd
      have d1 : (x.dead == x.dead) = true := beq_self_eq_true _
      by_cases ho : 0 ≤ -(x.track - head)
      · have d2 : decide (0 ≤ -(x.track - head)) = true := decide_eq_true ho
        have d3 : decide (x.track ≤ head) = true := decide_eq_true (by omega)
        have d4 : decide (x.track - head ≤ 0) = true := decide_eq_true (by omega)
        have HR := Lib.hid (show b = true from by rw [HBB.out]; exact decide_eq_true ⟨rfl, by show 0 ≤ head - x.track; omega⟩)
        have HO := Lib.hid (show off false head x.track = -(x.track - head) from by simp only [off]; show head - x.track = _; omega)
        clear HBB
        go_enter Try.func48, Try.ntmps48
        go_wp2_with fail
        go_quiet (fail)
        go_wp2_with fail
        go_ret2
        exact ⟨by rw [HR.out, HO.out]; rfl, below_drewN AB.out _⟩
      · have d2 : decide (0 ≤ -(x.track - head)) = false := decide_eq_false ho
        have d3 : decide (x.track ≤ head) = false := decide_eq_false (by omega)
        have d4 : decide (x.track - head ≤ 0) = false := decide_eq_false (by omega)
        have HR := Lib.hid (show b = false from by rw [HBB.out]; exact decide_eq_false (fun h => ho (by have h2 : 0 ≤ head - x.track := h.2; omega)))
        have HO := Lib.hid (show off false head x.track = -(x.track - head) from by simp only [off]; show head - x.track = _; omega)
        clear HBB
        go_enter Try.func48, Try.ntmps48
        go_wp2_with fail
        go_quiet (fail)
        go_wp2_with fail
        go_ret2
        exact ⟨by rw [HR.out, HO.out]; rfl, below_drewN AB.out _⟩
    · have d1 : (x.dead == first) = false := beq_eq_false_iff_ne.2 hd
      have HR := Lib.hid (show b = false from by rw [HBB.out]; exact decide_eq_false (fun h => hd h.1))
      have HO := Lib.hid (show off false head x.track = -(x.track - head) from by simp only [off]; show head - x.track = _; omega)
      clear HBB
      go_enter Try.func48, Try.ntmps48
      go_wp2_with fail
      go_quiet (fail)
      go_wp2_with fail
      go_ret2
      exact ⟨by rw [HR.out, HO.out]; rfl, below_drewN AB.out _⟩
end
end Go.Proofs.Ytmikjbhhnndncaa
