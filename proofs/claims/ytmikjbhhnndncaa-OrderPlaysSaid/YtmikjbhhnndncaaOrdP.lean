/- Layer 18: the document's 'pick'. -/
import Derived.Test.YtmikjbhhnndncaaOrdN
import Derived.Deep.QuietTactic
namespace Go.Proofs.Ytmikjbhhnndncaa
open Go.RowKit
set_option linter.unusedVariables false
set_option maxRecDepth 100000
set_option maxHeartbeats 4000000
/-- Where the one found stands. -/
def PickZ (l : List Wt) (r : Option Wt) (z : Int) : Prop := (r = none ∧ z = -1) ∨ ∃ (i : Nat) (x : Wt), r = some x ∧ z = (i : Int) ∧ l[i]? = some x
theorem cand_way {s : OSt} {down : Bool} {x : Wt} : cand s (!down) x ↔ x.dead = firstD s.l ∧ (if down then x.track ≤ s.head else s.head ≤ x.track) := by
  unfold cand off
  cases down <;> simp <;> omega
theorem nearer_way {s : OSt} {down : Bool} {x y : Wt} : nearer s (!down) x y ↔ (if down then y.track < x.track else x.track < y.track) ∨ (x.track = y.track ∧ x.id < y.id) := by
  unfold nearer off
  cases down <;> simp <;> omega
section
variable {w0 w w' : World} {S0 S : Nat → Prop} {N L : List Res} {q : Nat} {s s' : OSt}
theorem pick_c {r : Nat} {dn : Bool} (H : St w0 S0 w L) (i : Nat) {A : Option Addr} {c n : Nat} (hn : n = s.l.length) (hq : L[i]? = some (BlkR r 29 #[.slice A n c, .int .i64 s.head, .bool dn])) (j : Nat) (hj : L[j]? = some (LisR 32 3 (.slice A n c) n (ovs s.l))) (hs : s.ok) (down : Bool) {D : Int} (hD : D = firstD s.l) :
    Calls Try.prog 31 #[.pointer (some ⟨r, 0, none⟩), .int .u64 D, .bool down] w fun e w' => ∃ z ro, e = .returned (.int .i64 z) ∧ NearP s (!down) n ro ∧ PickZ s.l ro z ∧ Below w.heap.size w w' := by
  have hlen := hs.len
  have HH := Lib.hid H
  have HN := Lib.hid hn
  have HD := Lib.hid hD
  have hn64 : n ≤ 64 := by omega
  obtain ⟨hd, hhd⟩ : ∃ hd, hd = s.head := ⟨_, rfl⟩
  have HHD := Lib.hid hhd
  have HQ := Lib.hid (show L[i]? = some (BlkR r 29 #[.slice A n c, .int .i64 hd, .bool dn]) by rw [hhd]; exact hq)
  have HJ := Lib.hid hj
  clear H hn hD hlen hs hhd hq hj
  go_enter Try.func31, Try.ntmps31
  go_wp2_with fail
  go_loopw [7, 8] (fun bst t wr => ∃ (k : Nat) (z : Int) (rk : Option Wt), k ≤ n ∧ t = .int .i64 (k : Int) ∧ bst = .int .i64 z ∧ NearP s (!down) k rk ∧ PickZ s.l rk z ∧ Below w.heap.size w wr) (fun _ t _ => n - (intOf t).toNat)
  case atStart => exact ⟨0, -1, none, by omega, rfl, rfl, fun i x hi => by omega, Or.inl ⟨rfl, rfl⟩, Below.refl _ _⟩
  case round =>
  obtain ⟨k, z, rk, hk, rfl, rfl, hnr, hpz, hb⟩ := hrel
  have sr := HH.out.stay hb
  have NR := Lib.hid hnr
  have PZ := Lib.hid hpz
  have HB := Lib.hid hb
  have r0 := (sr.blk i HQ.out).three.1
  clear hnr hpz
  by_cases hkn : k < n
  · obtain ⟨x, hx⟩ : ∃ x, s.l[k]? = some x := ⟨_, List.getElem?_eq_getElem (by rw [← HN.out]; exact hkn)⟩
    obtain ⟨b, o, rfl, -, m0, m1, m2⟩ := want_at (sr.lis j HJ.out) hx
    have t1 : decide ((k : Int) < (n : Int)) = true := decide_eq_true (by omega)
    have t1' : decide (k < n) = true := decide_eq_true hkn
    have u : St w0 S0 (wr.alloc (.cells #[.int .i64 x.id, .int .u64 x.dead, .int .i64 x.track] 32)) (L ++ [BlkR wr.heap.size 32 #[.int .i64 x.id, .int .u64 x.dead, .int .i64 x.track]]) := sr.box _ _
    have hil : i < L.length := (List.getElem?_eq_some_iff.1 HQ.out).1
    have hjl : j < L.length := (List.getElem?_eq_some_iff.1 HJ.out).1
    obtain ⟨v0, v1, -⟩ := (u.blk i (by rw [List.getElem?_append_left hil]; exact HQ.out)).three
    obtain ⟨x0, x1, x2⟩ := (u.blk (g := wr.heap.size) (t := 32) (cs := #[.int .i64 x.id, .int .u64 x.dead, .int .i64 x.track]) L.length (by simp)).three
    have HLU := Lib.hid (u.lis j (by rw [List.getElem?_append_left hjl]; exact HJ.out))
    have HX := Lib.hid hx
    have HBA := Lib.hid (hb.alloc hb.size (.cells #[.int .i64 x.id, .int .u64 x.dead, .int .i64 x.track] 32))
    have STEP := Lib.hid (NearP.step NR.out hx)
    have U := Lib.hid u
    clear sr hx hb u hil hjl
    by_cases hcd : cand s (!down) x
    case neg =>
      have STEP2 := Lib.hid (show NearP s (!down) (k + 1) rk from by
        have := STEP.out
        unfold nearStep at this
        rwa [if_neg hcd] at this)
      have hw := fun h => hcd (cand_way.2 h)
      rw [← HD.out, ← HHD.out] at hw
      clear hcd STEP
      by_cases hde : x.dead = D
      · have y0 : (x.dead != D) = false := by simp [hde]
        have hw2 := fun h => hw ⟨hde, h⟩
        clear hw hde
        cases down with
        | true =>
          have y1 : decide (hd < x.track) = true := decide_eq_true (by have : ¬ (x.track ≤ hd) := fun h => hw2 (by simpa using h); omega)
          clear hw2
          go_wp2_with fail
          go_quiet (fail)
          go_wp2_with fail
          go_roundw
          case rel => exact ⟨k + 1, z, rk, by omega, by go_num, rfl, STEP2.out, PZ.out, below_drewN HBA.out _⟩
          case measure => simp [intOf]; omega
        | false =>
          have y1 : decide (x.track < hd) = true := decide_eq_true (by have : ¬ (hd ≤ x.track) := fun h => hw2 (by simpa using h); omega)
          clear hw2
          go_wp2_with fail
          go_quiet (fail)
          go_wp2_with fail
          go_roundw
          case rel => exact ⟨k + 1, z, rk, by omega, by go_num, rfl, STEP2.out, PZ.out, below_drewN HBA.out _⟩
          case measure => simp [intOf]; omega
      · have y0 : (x.dead != D) = true := by simp [hde]
        clear hw hde
        go_wp2_with fail
        go_quiet (fail)
        go_wp2_with fail
        go_roundw
        case rel => exact ⟨k + 1, z, rk, by omega, by go_num, rfl, STEP2.out, PZ.out, below_drewN HBA.out _⟩
        case measure => simp [intOf]; omega
    have hcw := cand_way.1 hcd
    rw [← HD.out, ← HHD.out] at hcw
    have HCD := Lib.hid hcd
    have y0 : (x.dead != D) = false := by simp [hcw.1]
    have hcw2 := hcw.2
    clear hcd hcw
    rcases PZ.out with ⟨rfl, rfl⟩ | ⟨m, y, rfl, rfl, hy⟩
    · have STEP2 := Lib.hid (show NearP s (!down) (k + 1) (some x) from by
        have := STEP.out
        unfold nearStep at this
        rwa [if_pos HCD.out] at this)
      clear STEP HCD PZ NR
      cases down with
      | true =>
        have y1 : decide (hd < x.track) = false := decide_eq_false (by have h7 : x.track ≤ hd := (by simpa using hcw2); omega)
        clear hcw2
        go_wp2_with fail
        go_quiet (fail)
        go_wp2_with fail
        go_roundw
        case rel => exact ⟨k + 1, (k : Int), some x, by omega, by go_num, rfl, STEP2.out, Or.inr ⟨k, x, rfl, rfl, HX.out⟩, below_drewN HBA.out _⟩
        case measure => simp [intOf]; omega
      | false =>
        have y1 : decide (x.track < hd) = false := decide_eq_false (by have h7 : hd ≤ x.track := (by simpa using hcw2); omega)
        clear hcw2
        go_wp2_with fail
        go_quiet (fail)
        go_wp2_with fail
        go_roundw
        case rel => exact ⟨k + 1, (k : Int), some x, by omega, by go_num, rfl, STEP2.out, Or.inr ⟨k, x, rfl, rfl, HX.out⟩, below_drewN HBA.out _⟩
        case measure => simp [intOf]; omega
    have HY := Lib.hid hy
    have hmn : m < n := by rw [HN.out]; exact (List.getElem?_eq_some_iff.1 hy).1
    obtain ⟨b', o', he, -, n0, n1, n2⟩ := want_at HLU.out hy
    obtain ⟨rfl, rfl⟩ : b = b' ∧ o = o' := by simpa using he
    have zm : decide ((m : Int) < 0) = false := decide_eq_false (by omega)
    have hmn' : (m : Int) < (n : Int) := by omega
    have u2 : St w0 S0 ((wr.alloc (.cells #[.int .i64 x.id, .int .u64 x.dead, .int .i64 x.track] 32)).alloc (.cells #[.int .i64 y.id, .int .u64 y.dead, .int .i64 y.track] 32)) (L ++ [BlkR wr.heap.size 32 #[.int .i64 x.id, .int .u64 x.dead, .int .i64 x.track]] ++ [BlkR (wr.heap.size + 1) 32 #[.int .i64 y.id, .int .u64 y.dead, .int .i64 y.track]]) := by
      have t := U.out.box 32 #[.int .i64 y.id, .int .u64 y.dead, .int .i64 y.track]
      rw [show (wr.alloc (.cells #[.int .i64 x.id, .int .u64 x.dead, .int .i64 x.track] 32)).heap.size = wr.heap.size + 1 by simp] at t
      exact t
    obtain ⟨p0, p1, p2⟩ := (u2.blk (g := wr.heap.size) (t := 32) (cs := #[.int .i64 x.id, .int .u64 x.dead, .int .i64 x.track]) L.length (by simp)).three
    obtain ⟨q0, q1, q2⟩ := (u2.blk (g := wr.heap.size + 1) (t := 32) (cs := #[.int .i64 y.id, .int .u64 y.dead, .int .i64 y.track]) (L.length + 1) (by simp)).three
    have HBB := Lib.hid (HBA.out.alloc HBA.out.size (.cells #[.int .i64 y.id, .int .u64 y.dead, .int .i64 y.track] 32))
    have HBQ := Lib.hid (fun k => (below_drewN HBA.out k).alloc (below_drewN HBA.out k).size (.cells #[.int .i64 y.id, .int .u64 y.dead, .int .i64 y.track] 32))
    clear u2 hy he
    cases down with
    | true =>
      have y1 : decide (hd < x.track) = false := decide_eq_false (by have h7 : x.track ≤ hd := (by simpa using hcw2); omega)
      clear hcw2
      by_cases hE : x.track = y.track
      · have zE : (x.track == y.track) = true := by simp [hE]
        have dW : decide (y.track < x.track) = false := decide_eq_false (by omega)
        by_cases hI : x.id < y.id
        · have dI : decide (x.id < y.id) = true := decide_eq_true hI
          have HNE := Lib.hid (show nearer s (!true) x y from (nearer_way (down := true)).2 (Or.inr ⟨hE, hI⟩))
          clear hE hI
          have STEP2 := Lib.hid (show NearP s (!true) (k + 1) (some x) from by
            have := STEP.out
            unfold nearStep at this
            rw [if_pos HCD.out] at this
            simpa only [if_pos (HNE.out)] using this)
          clear STEP HCD PZ NR
          go_wp2_with fail
          go_quiet (fail)
          go_wp2_with fail
          go_roundw
          case rel => exact ⟨k + 1, (k : Int), some x, by omega, by go_num, rfl, STEP2.out, Or.inr ⟨k, x, rfl, rfl, HX.out⟩, by first | exact below_drewN HBB.out _ | exact HBQ.out _⟩
          case measure => simp [intOf]; omega
        · have dI : decide (x.id < y.id) = false := decide_eq_false hI
          have HNE := Lib.hid (show ¬ nearer s (!true) x y from fun h => by
            rcases (nearer_way (down := true)).1 h with h | h
            · simp at h; omega
            · omega)
          clear hE hI
          have STEP2 := Lib.hid (show NearP s (!true) (k + 1) (some y) from by
            have := STEP.out
            unfold nearStep at this
            rw [if_pos HCD.out] at this
            simpa only [if_neg (HNE.out)] using this)
          clear STEP HCD PZ NR
          go_wp2_with fail
          go_quiet (fail)
          go_wp2_with fail
          go_roundw
          case rel => exact ⟨k + 1, (m : Int), some y, by omega, by go_num, rfl, STEP2.out, Or.inr ⟨m, y, rfl, rfl, HY.out⟩, by first | exact below_drewN HBB.out _ | exact HBQ.out _⟩
          case measure => simp [intOf]; omega
      · have zE : (x.track == y.track) = false := beq_eq_false_iff_ne.2 hE
        by_cases hW : y.track < x.track
        · have dW : decide (y.track < x.track) = true := decide_eq_true hW
          have HNE := Lib.hid (show nearer s (!true) x y from (nearer_way (down := true)).2 (Or.inl (by simpa using hW)))
          clear hE hW
          have STEP2 := Lib.hid (show NearP s (!true) (k + 1) (some x) from by
            have := STEP.out
            unfold nearStep at this
            rw [if_pos HCD.out] at this
            simpa only [if_pos (HNE.out)] using this)
          clear STEP HCD PZ NR
          go_wp2_with fail
          go_quiet (fail)
          go_wp2_with fail
          go_roundw
          case rel => exact ⟨k + 1, (k : Int), some x, by omega, by go_num, rfl, STEP2.out, Or.inr ⟨k, x, rfl, rfl, HX.out⟩, by first | exact below_drewN HBB.out _ | exact HBQ.out _⟩
          case measure => simp [intOf]; omega
        · have dW : decide (y.track < x.track) = false := decide_eq_false hW
          have HNE := Lib.hid (show ¬ nearer s (!true) x y from fun h => by
            rcases (nearer_way (down := true)).1 h with h | h
            · simp at h; omega
            · omega)
          clear hE hW
          have STEP2 := Lib.hid (show NearP s (!true) (k + 1) (some y) from by
            have := STEP.out
            unfold nearStep at this
            rw [if_pos HCD.out] at this
            simpa only [if_neg (HNE.out)] using this)
          clear STEP HCD PZ NR
          go_wp2_with fail
          go_quiet (fail)
          go_wp2_with fail
          go_roundw
          case rel => exact ⟨k + 1, (m : Int), some y, by omega, by go_num, rfl, STEP2.out, Or.inr ⟨m, y, rfl, rfl, HY.out⟩, by first | exact below_drewN HBB.out _ | exact HBQ.out _⟩
          case measure => simp [intOf]; omega
    | false =>
      have y1 : decide (x.track < hd) = false := decide_eq_false (by have h7 : hd ≤ x.track := (by simpa using hcw2); omega)
      clear hcw2
      by_cases hE : x.track = y.track
      · have zE : (x.track == y.track) = true := by simp [hE]
        have dW : decide (x.track < y.track) = false := decide_eq_false (by omega)
        by_cases hI : x.id < y.id
        · have dI : decide (x.id < y.id) = true := decide_eq_true hI
          have HNE := Lib.hid (show nearer s (!false) x y from (nearer_way (down := false)).2 (Or.inr ⟨hE, hI⟩))
          clear hE hI
          have STEP2 := Lib.hid (show NearP s (!false) (k + 1) (some x) from by
            have := STEP.out
            unfold nearStep at this
            rw [if_pos HCD.out] at this
            simpa only [if_pos (HNE.out)] using this)
          clear STEP HCD PZ NR
          go_wp2_with fail
          go_quiet (fail)
          go_wp2_with fail
          go_roundw
          case rel => exact ⟨k + 1, (k : Int), some x, by omega, by go_num, rfl, STEP2.out, Or.inr ⟨k, x, rfl, rfl, HX.out⟩, by first | exact below_drewN HBB.out _ | exact HBQ.out _⟩
          case measure => simp [intOf]; omega
        · have dI : decide (x.id < y.id) = false := decide_eq_false hI
          have HNE := Lib.hid (show ¬ nearer s (!false) x y from fun h => by
            rcases (nearer_way (down := false)).1 h with h | h
            · simp at h; omega
            · omega)
          clear hE hI
          have STEP2 := Lib.hid (show NearP s (!false) (k + 1) (some y) from by
            have := STEP.out
            unfold nearStep at this
            rw [if_pos HCD.out] at this
            simpa only [if_neg (HNE.out)] using this)
          clear STEP HCD PZ NR
          go_wp2_with fail
          go_quiet (fail)
          go_wp2_with fail
          go_roundw
          case rel => exact ⟨k + 1, (m : Int), some y, by omega, by go_num, rfl, STEP2.out, Or.inr ⟨m, y, rfl, rfl, HY.out⟩, by first | exact below_drewN HBB.out _ | exact HBQ.out _⟩
          case measure => simp [intOf]; omega
      · have zE : (x.track == y.track) = false := beq_eq_false_iff_ne.2 hE
        by_cases hW : x.track < y.track
        · have dW : decide (x.track < y.track) = true := decide_eq_true hW
          have HNE := Lib.hid (show nearer s (!false) x y from (nearer_way (down := false)).2 (Or.inl (by simpa using hW)))
          clear hE hW
          have STEP2 := Lib.hid (show NearP s (!false) (k + 1) (some x) from by
            have := STEP.out
            unfold nearStep at this
            rw [if_pos HCD.out] at this
            simpa only [if_pos (HNE.out)] using this)
          clear STEP HCD PZ NR
          go_wp2_with fail
          go_quiet (fail)
          go_wp2_with fail
          go_roundw
          case rel => exact ⟨k + 1, (k : Int), some x, by omega, by go_num, rfl, STEP2.out, Or.inr ⟨k, x, rfl, rfl, HX.out⟩, by first | exact below_drewN HBB.out _ | exact HBQ.out _⟩
          case measure => simp [intOf]; omega
        · have dW : decide (x.track < y.track) = false := decide_eq_false hW
          have HNE := Lib.hid (show ¬ nearer s (!false) x y from fun h => by
            rcases (nearer_way (down := false)).1 h with h | h
            · simp at h; omega
            · omega)
          clear hE hW
          have STEP2 := Lib.hid (show NearP s (!false) (k + 1) (some y) from by
            have := STEP.out
            unfold nearStep at this
            rw [if_pos HCD.out] at this
            simpa only [if_neg (HNE.out)] using this)
          clear STEP HCD PZ NR
          go_wp2_with fail
          go_quiet (fail)
          go_wp2_with fail
          go_roundw
          case rel => exact ⟨k + 1, (m : Int), some y, by omega, by go_num, rfl, STEP2.out, Or.inr ⟨m, y, rfl, rfl, HY.out⟩, by first | exact below_drewN HBB.out _ | exact HBQ.out _⟩
          case measure => simp [intOf]; omega
  · have t1 : decide ((k : Int) < (n : Int)) = false := decide_eq_false (by omega)
    have t1' : decide (k < n) = false := decide_eq_false hkn
    obtain rfl : k = n := by omega
    clear sr hb
    go_wp2_with fail
    go_ret
    exact ⟨z, rk, rfl, NR.out, PZ.out, HB.out⟩
end
end Go.Proofs.Ytmikjbhhnndncaa
