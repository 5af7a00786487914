/- Layer 23: a new keeper; what the document lets. -/
import Derived.Test.YtpfodchdpafofaaLockH
namespace Go.Proofs.Ytpfodchdpafofaa
open Go.RowKit
set_option linter.unusedVariables false
set_option maxRecDepth 100000
set_option maxHeartbeats 4000000
section
variable {w0 w w' : World} {S0 S : Nat → Prop} {B L : List Res} {k c b N : Nat} {A : Option Addr} {ptr : Nat → Nat} {s s' : KS}
theorem May_yes (x : Int) (w : World) (hx : 0 ≤ x ∧ x ≤ 100) : Calls Try.prog 18 #[.agg #[.int .i64 x]] w fun e w' => e = .returned (.bool true) ∧ Below w.heap.size w w' := by
  have q0 := (Blk.new w 42 #[.int .i64 x]).one
  have d1 : decide (0 ≤ x) = true := decide_eq_true hx.1
  have d2 : decide (x ≤ 100) = true := decide_eq_true hx.2
  clear hx
  go_enter Try.func18, Try.ntmps18
  go_wp2_with fail
  go_ret
  exact ⟨rfl, (Below.refl _ _).alloc (Nat.le_refl _) _⟩
theorem Star.empt {L : List Res} {S : Nat → Prop} (h : Star L w S) (n : Nat) : Star (L ++ (List.range n).map fun _ => EmpR) w S := by
  obtain ⟨F, f1, f2, f3, f4⟩ := h
  refine ⟨F, fun i R hR => ?_, f2, fun i b hb => by have := f3 i b hb; simp; omega, f4⟩
  by_cases hi : i < L.length
  · rw [List.getElem?_append_left hi] at hR; exact f1 i R hR
  · rw [List.getElem?_append_right (by omega)] at hR
    have hn := (List.getElem?_eq_some_iff.1 hR).1
    simp at hn
    obtain rfl : R = EmpR := by simpa [hn] using hR.symm
    exact ⟨EmpR.ok, fun b hb => hi (f3 i b hb)⟩
theorem mapOf_new (l : List Int) (ptr : Nat → Nat) : mapOf (KS.new l) ptr = fun _ => none := by
  funext j
  unfold mapOf
  split <;> rfl
theorem kr_new {l : List Int} (H : St w0 S0 w (L ++ [MapR Try.prog 3 b 0 (fun _ => none), BlkR k 50 #[.slice A l.length c, .map (some b)], LisR 3 1 (.slice A l.length c) l.length (cvs l)])) : St w0 S0 w (L ++ [KR k 0 (KS.new l)]) := by
  refine H.fold (KR.ok _ _ _) fun S h => ⟨A, c, b, fun _ => 0, ?_⟩
  unfold KA KF
  rw [mapOf_new]
  exact (Star.comm (A := [_]) (B := [_, _]) h).empt 64
theorem New_o {n d : Nat} {l : List Int} (H : St w0 S0 w L) (hr : Rds w A n 1 (cvs l)) (hl : l.length = n) (h1 : 1 ≤ n) (h16 : n ≤ 16) (hc : ∀ x ∈ l, 0 ≤ x ∧ x ≤ 100) :
    Calls Try.prog 9 #[.slice A n d] w fun e w' => ∃ k, e = .returned (.tuple #[.pointer (some ⟨k, 0, none⟩), .int .i64 0]) ∧ St w0 S0 w' (L ++ [KR k 0 (KS.new l)]) := by
  have HH := Lib.hid H
  have HR := Lib.hid hr
  have HL := Lib.hid hl
  have HC := Lib.hid hc
  have K0 : St w None ((w.alloc (.map #[] 0)).alloc (.cells #[.slice none 0 0, .map (some w.heap.size)] 50)) [MapR Try.prog 3 w.heap.size 0 (fun _ => none), BlkR (w.heap.size + 1) 50 #[.slice none 0 0, .map (some w.heap.size)], LisR 3 1 (.slice none 0 0) 0 (cvs [])] := by
    have t := (((St.begin w).map_new Try.prog 3).box 50 #[.slice none 0 0, .map (some w.heap.size)]).lis_nil 3 1
    rw [show (w.alloc (.map #[] 0)).heap.size = w.heap.size + 1 by simp] at t
    exact t
  have KK := Lib.hid K0
  have hmm := @run_makeMap Try.prog
  have d1 : decide ((n : Int) < 1) = false := decide_eq_false (by omega)
  have d1' : decide (n < 1) = false := decide_eq_false (by omega)
  have d2 : decide (16 < (n : Int)) = false := decide_eq_false (by omega)
  have d2' : decide (16 < n) = false := decide_eq_false (by omega)
  obtain ⟨iI, hiI, hzI, hsI, hbI⟩ := info3k Try.infoInt
  have d3 : (n == 0) = false := beq_eq_false_iff_ne.2 (by omega)
  have d4 : ((n : Int) == 0) = false := beq_eq_false_iff_ne.2 (by omega)
  clear H hr hl hc K0
  go_enter Try.func9, Try.ntmps9
  go_wp2_with fail
  obtain ⟨b, hb⟩ : ∃ b, b = w.heap.size := ⟨_, rfl⟩
  go_loopw [20] (fun t wr => ∃ (j : Nat) (C : Option Addr) (cc : Nat), j ≤ n ∧ t = .int .i64 (j : Int) ∧ St w None wr [MapR Try.prog 3 w.heap.size 0 (fun _ => none), BlkR (w.heap.size + 1) 50 #[.slice C j cc, .map (some w.heap.size)], LisR 3 1 (.slice C j cc) j (cvs (l.take j))]) (fun t _ => n - (intOf t).toNat)
  case atStart => exact ⟨0, none, 0, by omega, rfl, KK.out⟩
  case round =>
  clear KK
  obtain ⟨j, C, cc, hj, rfl, sr⟩ := hrel
  by_cases hjn : j < n
  case neg =>
    have t1 : decide ((j : Int) < (n : Int)) = false := decide_eq_false (by omega)
    have t1' : decide (j < n) = false := decide_eq_false hjn
    obtain rfl : j = n := by omega
    have SR := Lib.hid sr
    have HF := Lib.hid (show St w0 S0 wr (L ++ [KR (w.heap.size + 1) 0 (KS.new l)]) from by
      have h := HH.out.join SR.out
      rw [List.take_of_length_le (by rw [HL.out]; exact Nat.le_refl _)] at h
      rw [← HL.out] at h
      exact kr_new h)
    clear sr
    go_wp2_with fail
    go_ret2
    exact ⟨_, rfl, HF.out⟩
  obtain ⟨x, hx⟩ : ∃ x, l[j]? = some x := ⟨_, List.getElem?_eq_getElem (by rw [HL.out]; exact hjn)⟩
  have hx100 := HC.out x (List.mem_of_getElem? hx)
  obtain ⟨g, off, rfl, hg⟩ := HR.out.2.resolve_left (by omega)
  have a0 : wr.cell? ⟨g, off + j, none⟩ = some (.int .i64 x) := by
    have h := hg j _ (cvs_get hx)
    rw [sr.below.cell (block_lt h)]; exact h
  have HTK := Lib.hid (show cvs (l.take j) ++ cvs [x] = cvs (l.take (j + 1)) by rw [List.take_add_one, hx, cvs_app]; rfl)
  have sb : St w None (wr.alloc (.cells #[.int .i64 x] 42)) [MapR Try.prog 3 w.heap.size 0 (fun _ => none), BlkR (w.heap.size + 1) 50 #[.slice C j cc, .map (some w.heap.size)], LisR 3 1 (.slice C j cc) j (cvs (l.take j)), BlkR wr.heap.size 42 #[.int .i64 x]] := St.box (L := [_, _, _]) sr _ _
  have b0 := (sb.blk 3 rfl).one
  have SB := Lib.hid sb
  have MY := Lib.hid (fun W => May_yes x W hx100)
  have t1 : decide ((j : Int) < (n : Int)) = true := decide_eq_true (by omega)
  have t1' : decide (j < n) = true := decide_eq_true hjn
  have j0 : (0 : Int) ≤ (j : Int) := by omega
  have j1 : (j : Int) < (n : Int) := by omega
  clear sr hx hx100 hg sb
  go_wp2_with fail
  refine (MY.out _).mono ?_
  rintro e w2 ⟨rfl, hb2⟩
  have s2 := SB.out.stay hb2
  have e0 := (s2.blk 3 rfl).one
  have q0 := (s2.blk 1 rfl).two.1
  have s4 := (s2.alloc (.cells #[.int .i64 x] 3)).drew
  have q1 := ((s2.alloc (.cells #[.int .i64 x] 3)).blk 1 rfl).two.1
  have e1 := ((s2.alloc (.cells #[.int .i64 x] 3)).blk 3 rfl).one
  have RB := Lib.hid (show Rds ((w2.alloc (.cells #[.int .i64 x] 3)).drew) (some ⟨w2.heap.size, 0, none⟩) 1 1 (cvs [x]) from rds_box w2 _ _)
  have HL4 := Lib.hid (s4.lis 2 rfl)
  have hcap := (s2.lis 2 rfl).caps
  have S4 := Lib.hid s4
  unfold maxLen at hcap
  clear b0 a0 SB hb2 s2 s4
  go_wp2_with fail
  go_region_law (first
    | (refine step_lis (by rfl) _ _ _ (by rfl) 3 iI (.int .i64 0) 1 8 Try.underlying34 hiI hzI hsI hbI (by rfl) (by omega) (.slice C j cc) j (cvs (l.take j)) (by rfl) HL4.out _ 1 1 (cvs [x]) (by rfl) RB.out (cvs_one _) (by unfold maxLen; omega) (by omega) ?_; intro D cD w5 hl hg hat; have t5 := S4.out.lis_put 2 rfl hl hg hat; rw [HTK.out] at t5; have m1 := (t5.blk 1 rfl).two.1; have g1 := (t5.blk 1 rfl).frozen 0; have T6 := Lib.hid (t5.set_ 1 rfl 0 (.slice D (j + 1) cD)); clear hl hg hat t5))
  all_goals
    go_wp2_with fail
    go_roundw
    case rel => exact ⟨j + 1, D, cD, by omega, by go_num, T6.out.take 3⟩
    case measure => simp [intOf]; omega
end
end Go.Proofs.Ytpfodchdpafofaa
