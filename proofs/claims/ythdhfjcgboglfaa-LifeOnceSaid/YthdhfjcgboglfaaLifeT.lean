/- Layer 19: the laws' first look. -/
import Derived.Test.YthdhfjcgboglfaaLifeS
namespace Go.Proofs.Ythdhfjcgboglfaa
open Go.RowKit
set_option linter.unusedVariables false
set_option maxRecDepth 100000
set_option maxHeartbeats 4000000
def aw1 : Bk := (Bk.new 5).opn 7 20
def aw2 : Bk := aw1.opn 8 30
def aw3 : Bk := aw2.ans 8 3 false
def aw4 : Bk := aw3.ans 8 3 false
def aw5 : Bk := aw4.gon 15
theorem Bk.ok.ans {s : Bk} (ok : s.ok) (id st : Int) (bad : Bool) : (s.ans id st bad).ok := by
  unfold Bk.ans; split
  · exact ok
  · exact ok.out _
theorem aw_ok : aw4.ok := (((bk_new_ok (c := 5) rfl).opn 7 20).opn 8 30 |>.ans 8 3 false).ans 8 3 false
theorem aw_op : ∀ k, k < 64 → aw4.op k = if k = 0 then some (7, 20) else none := by
  have h : ((List.range 64).all fun k => decide (aw4.op k = if k = 0 then some (7, 20) else none)) = true := by kernel_rfl
  intro k hk
  rw [List.all_eq_true] at h
  exact of_decide_eq_true (h k (by simpa using hk))
theorem aw_out {o : List Ft} (h : OutP aw4 15 o) : o = [⟨8, 1, 3⟩, ⟨7, 2, 1⟩] := by
  refine h.uniq aw_ok ?_
  unfold OutP
  rw [if_pos (show goA aw4.now 15 = 0 by kernel_rfl)]
  refine ⟨[7], ⟨by simp, fun x => ?_, fun a b x y hab hx hy => ?_⟩, by kernel_rfl⟩
  · constructor
    · intro hx
      obtain rfl : x = 7 := by simpa using hx
      exact ⟨0, 20, by rw [aw_op 0 (by omega)]; rfl, by show (20 : Int) - 5 ≤ 15; omega⟩
    · rintro ⟨k, d, hk, _⟩
      rw [aw_op k (aw_ok.U.lt k _ hk)] at hk
      split at hk
      · injection hk with hk
        injection hk with hk _
        have : x = 7 := by omega
        simp [this]
      · cases hk
  · have := (List.getElem?_eq_some_iff.1 hy).1
    simp at this
    omega
theorem awake_c (w : World) : Calls Try.prog 9 #[] w fun e w' => e = .returned (.bool true) ∧ St w None w' [] := by
  have e1 : opnA (Bk.new 5) 7 20 = 0 := by kernel_rfl
  have e2 : opnA aw1 8 30 = 0 := by kernel_rfl
  have e3 : ansA aw2 8 3 = 0 := by kernel_rfl
  have e4 : ansA aw3 8 3 = 6 := by kernel_rfl
  have e5 : goA aw4.now 15 = 0 := by kernel_rfl
  have e6 : cntO aw5.op = 0 := by kernel_rfl
  have e7 : opnA aw5 7 20 = 11 := by kernel_rfl
  have q1 : ∀ W, (binOp .eql 50 (.agg #[.int .i64 8, .int .i64 1, .int .i64 3]) (.agg #[.int .i64 8, .int .i64 1, .int .i64 3])).run Try.prog W = .ok (.bool true) W := fun W => by kernel_rfl
  have q2 : ∀ W, (binOp .eql 50 (.agg #[.int .i64 7, .int .i64 2, .int .i64 1]) (.agg #[.int .i64 7, .int .i64 2, .int .i64 1])).run Try.prog W = .ok (.bool true) W := fun W => by kernel_rfl
  have NW := Lib.hid (bNew_o (c := 5) (St.begin w) (by kernel_rfl))
  go_enter Try.func9, Try.ntmps9
  go_wp2_with fail
  refine NW.out.mono ?_
  rintro e w1 ⟨b, rfl, s1⟩
  have K1 := Lib.hid (bOpen_o (id := 7) (dead := 20) s1 0 rfl (wf_small (by omega) (by omega)) (by omega) (by omega))
  rw [e1] at K1
  clear NW s1
  go_wp2_with fail
  refine K1.out.mono ?_
  rintro e w2 ⟨rfl, s2⟩
  have K2 := Lib.hid (bOpen_o (s := aw1) (id := 8) (dead := 30) s2 0 rfl (wf_small (by omega) (by omega)) (by omega) (by omega))
  rw [e2] at K2
  clear K1 s2
  go_wp2_with fail
  refine K2.out.mono ?_
  rintro e w3 ⟨rfl, s3⟩
  have K3 := Lib.hid (bAnswer_o (s := aw2) (id := 8) s3 0 rfl (wf_small (by omega) (by omega)) (by rw [show aw2.un.length = 0 by kernel_rfl]; omega) 3 false)
  rw [e3] at K3
  clear K2 s3
  go_wp2_with fail
  refine K3.out.mono ?_
  rintro e w4 ⟨rfl, s4⟩
  have K4 := Lib.hid (bAnswer_o (s := aw3) (id := 8) s4 0 rfl (wf_small (by omega) (by omega)) (by rw [show aw3.un.length = 1 by kernel_rfl]; omega) 3 false)
  rw [e4] at K4
  clear K3 s4
  go_wp2_with fail
  refine K4.out.mono ?_
  rintro e w5 ⟨rfl, s5⟩
  have K5 := Lib.hid (bGo_o (s := aw4) (u := 15) s5 0 rfl (by omega) (by rw [show aw4.un.length = 1 by kernel_rfl]; omega))
  rw [e5] at K5
  clear K4 s5
  go_wp2_with fail
  refine K5.out.mono ?_
  rintro e w6 ⟨B, n, d, out, rfl, ho, hn, hn9, s6⟩
  obtain rfl := aw_out ho
  obtain rfl : n = 2 := by simpa using hn.symm
  obtain ⟨g, off, rfl, hc⟩ := (s6.lis 1 rfl).reads.2.resolve_left (by omega)
  have x0 := hc 0 _ rfl
  have x1 := hc 1 _ rfl
  have x2 := hc 2 _ rfl
  have x3 := hc 3 _ rfl
  have x4 := hc 4 _ rfl
  have x5 := hc 5 _ rfl
  rw [Nat.add_zero] at x0
  have K6 := Lib.hid (bCount_o (s := aw5) s6 0 rfl)
  rw [e6] at K6
  clear K5 hc ho hn hn9
  go_wp2_with (first
    | (go_at_call 21; refine K6.out.mono ?_; rintro e w7 ⟨rfl, s7⟩; have K7 := Lib.hid (bOpen_o (s := aw5) (id := 7) (dead := 20) s7 0 rfl (wf_small (by omega) (by omega)) (by omega) (by omega)); rw [e7] at K7; clear s7)
    | (go_at_call 11; refine K7.out.mono ?_; rintro e w8 ⟨rfl, s8⟩; have S8 := Lib.hid s8; clear s8)
    | fail)
  go_ret
  exact ⟨rfl, (S8.out.drop 1 (by simp)).drop 0 (by simp)⟩
end Go.Proofs.Ythdhfjcgboglfaa
