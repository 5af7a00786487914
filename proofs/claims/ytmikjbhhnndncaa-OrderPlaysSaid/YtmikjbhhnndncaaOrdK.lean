/- Layer 18: the document's queue: taking. Printed by bin/genOrdTk.py. -/
import Derived.Test.YtmikjbhhnndncaaOrdQ
import Derived.Test.YtmikjbhhnndncaaOrdR
namespace Go.Proofs.Ytmikjbhhnndncaa
open Go.RowKit
set_option linter.unusedVariables false
set_option maxRecDepth 100000
set_option maxHeartbeats 4000000
section
variable {w0 w w' : World} {S0 S : Nat → Prop} {N L : List Res} {q : Nat} {s s' : OSt}
theorem rTake_c (h : RQR q s w S) (hs : s.ok) {x : Wt} {f : Int} (hP : TakeP s x f s') :
    Calls Try.prog 18 #[.pointer (some ⟨q, 0, none⟩)] w fun e w' => e = .returned (.tuple #[x.v, .int .i64 f]) ∧ ∃ S', RQR q s' w' S' ∧ Did S S' w w' := by
  obtain ⟨up, hn, hP⟩ := hP
  have K0 : St w S w [RQR q s] := St.start (Star.one (RQR.ok q s) h)
  have K1 : St w S (w.alloc (.cells #[.int .i64 0, .int .u64 0, .int .i64 0] 32)) [RQR q s, BlkR w.heap.size 32 #[.int .i64 0, .int .u64 0, .int .i64 0]] := St.box (L := [_]) K0 32 #[.int .i64 0, .int .u64 0, .int .i64 0]
  obtain ⟨T, hT⟩ := K1.get 0 rfl
  have N1 := Lib.hid (rNext_c hT hs)
  have HS := Lib.hid hs
  have HNX := Lib.hid hn
  have HK1 := Lib.hid K1
  clear K0 K1 hT h hs hn
  go_enter Try.func18, Try.ntmps18
  go_wp2_with fail
  refine N1.out.mono ?_
  rintro e w1 ⟨z, bb, rfl, hRN, hbw⟩
  have u1 := HK1.out.stay hbw
  obtain ⟨x', up', f', hn', hc⟩ := hRN
  obtain ⟨rfl, rfl, rfl⟩ := NextP.uniq HS.out HNX.out hn'
  have f0 := (u1.blk 1 rfl).frozen 0
  have f1 := (u1.blk 1 rfl).frozen 1
  have f2 := (u1.blk 1 rfl).frozen 2
  obtain ⟨c0, c1, c2⟩ : _ ∧ _ ∧ _ := (u1.blk 1 rfl).three
  rcases hP with ⟨rfl, rfl⟩ | ⟨rfl, i, hi, rfl⟩
  · obtain ⟨rfl, rfl⟩ : z = -1 ∧ bb = false := by
      rcases hc with ⟨_, h1, h2⟩ | ⟨h, _⟩
      · exact ⟨h1, h2⟩
      · omega
    obtain rfl : x = ⟨0, 0, 0⟩ := by
      rcases HNX.out with ⟨_, h, _⟩ | ⟨_, _, h⟩ | ⟨_, _, _, h⟩
      · exact h
      · omega
      · omega
    have u3 := ((u1.set_ 1 rfl 0 (.int .i64 0)).set_ 1 rfl 1 (.int .u64 0)).set_ 1 rfl 2 (.int .i64 0)
    obtain ⟨k0, k1, k2⟩ : _ ∧ _ ∧ _ := (u3.blk 1 rfl).three
    have U3 := Lib.hid (u3.take 1)
    clear u3 u1 hc hn' hbw N1
    go_wp2_with fail
    refine bodyPost_ret (v := .tuple #[.agg #[.int .i64 0, .int .u64 0, .int .i64 0], .int .i64 5]) ?_ rfl ⟨rfl, U3.out.fin fun S' h => star_one h⟩
    simp [results, Try.results18, go_sem, k0, k1, k2]
  obtain ⟨rfl, rfl⟩ : z = (i : Int) ∧ bb = (!up) := by
    rcases hc with ⟨h, _⟩ | ⟨_, h2, i', h3, h4⟩
    · omega
    · exact ⟨by rw [h3, HS.out.one i' i _ _ h4 hi rfl], h2⟩
  obtain ⟨T1, A1, c1', hT1⟩ := u1.get 0 rfl
  have t0 := ((St.start hT1).blk 0 rfl).three.1
  obtain ⟨lb, lo, rfl, hil, m0, m1, m2⟩ := want_at ((St.start hT1).lis 1 rfl) hi
  obtain ⟨ln, hln⟩ : ∃ ln, ln = s.l.length := ⟨_, rfl⟩
  rw [← hln] at t0 hil
  have z1 : decide ((i : Int) < 0) = false := decide_eq_false (by omega)
  have u2 : St w S (w1.alloc (.cells #[.int .i64 x.id, .int .u64 x.dead, .int .i64 x.track] 32)) [RQR q s, BlkR w.heap.size 32 #[.int .i64 0, .int .u64 0, .int .i64 0], BlkR w1.heap.size 32 #[.int .i64 x.id, .int .u64 x.dead, .int .i64 x.track]] := St.box (L := [_, _]) u1 _ _
  obtain ⟨d0, d1, d2⟩ : _ ∧ _ ∧ _ := (u2.blk 2 rfl).three
  have U2 := Lib.hid u2
  clear u1 u2 N1 hln hT1 hc hn' hbw
  have DC := Lib.hid (rDrop_o U2.out 0 rfl HS.out (id := x.id) (f := 0) (s' := { s with l := s.l.eraseIdx i }) (Or.inr ⟨i, x, hi, rfl, rfl, rfl⟩))
  clear U2 hi
  go_wp2_with fail
  refine DC.out.mono ?_
  rintro e w2 ⟨rfl, u3⟩
  have u3 : St w S w2 [RQR q { s with l := s.l.eraseIdx i }, BlkR w.heap.size 32 #[.int .i64 0, .int .u64 0, .int .i64 0], BlkR w1.heap.size 32 #[.int .i64 x.id, .int .u64 x.dead, .int .i64 x.track]] := u3
  clear f0 f1 f2 c0 c1 c2 d0 d1 d2 DC
  have u4 := St.comm (A := [_]) (B := [_, _]) u3
  obtain ⟨⟨A, c⟩, -, hr⟩ := u4.unfoldX (B := fun y : Option Addr × Nat => RQL q y.1 y.2 { s with l := s.l.eraseIdx i }) (Q := fun _ => True) fun T ⟨A, c, h⟩ => ⟨(A, c), trivial, h⟩
  have u5 : St w S w2 [BlkR w.heap.size 32 #[.int .i64 0, .int .u64 0, .int .i64 0], BlkR w1.heap.size 32 #[.int .i64 x.id, .int .u64 x.dead, .int .i64 x.track], BlkR q 29 #[.slice A (s.l.eraseIdx i).length c, .int .i64 s.head, .bool (!s.up)], LisR 32 3 (.slice A (s.l.eraseIdx i).length c) (s.l.eraseIdx i).length (ovs (s.l.eraseIdx i))] := hr
  have f0 := (u5.blk 0 rfl).frozen 0
  have f1 := (u5.blk 0 rfl).frozen 1
  have f2 := (u5.blk 0 rfl).frozen 2
  obtain ⟨c0, c1, c2⟩ := (u5.blk 0 rfl).three
  obtain ⟨d0, d1, d2⟩ := (u5.blk 1 rfl).three
  obtain ⟨q0, q1, q2⟩ := (u5.blk 2 rfl).three
  have g1 := (u5.blk 2 rfl).frozen 1
  have g2 := (u5.blk 2 rfl).frozen 2
  have u6 := (u5.set_ 2 rfl 1 (.int .i64 x.track)).set_ 2 rfl 2 (.bool (!up))
  obtain ⟨v0, v1, v2⟩ : _ ∧ _ ∧ _ := (u6.blk 1 rfl).three
  obtain ⟨x0, x1, x2⟩ : _ ∧ _ ∧ _ := (u6.blk 0 rfl).three
  have y0 := (u6.blk 0 rfl).frozen 0
  have y1 := (u6.blk 0 rfl).frozen 1
  have y2 := (u6.blk 0 rfl).frozen 2
  have u7 := ((u6.set_ 0 rfl 0 (.int .i64 x.id)).set_ 0 rfl 1 (.int .u64 x.dead)).set_ 0 rfl 2 (.int .i64 x.track)
  obtain ⟨k0, k1, k2⟩ : _ ∧ _ ∧ _ := (u7.blk 0 rfl).three
  have U7 := Lib.hid ((u7.drop 0 (by simp)).drop 0 (by simp))
  clear u3 u4 hr u5 u6 u7
  go_wp2_with fail
  refine bodyPost_ret (v := .tuple #[x.v, .int .i64 0]) ?_ rfl ⟨rfl, U7.out.fin fun S' h => ⟨A, c, h⟩⟩
  simp [results, Try.results18, go_sem, k0, k1, k2, Wt.v]
theorem rTake_o (H : St w0 S0 w L) (i : Nat) (hi : L[i]? = some (RQR q s)) (hs : s.ok) {x : Wt} {f : Int} (hP : TakeP s x f s') :
    Calls Try.prog 18 #[.pointer (some ⟨q, 0, none⟩)] w fun e w' => e = .returned (.tuple #[.agg #[.int .i64 x.id, .int .u64 x.dead, .int .i64 x.track], .int .i64 f]) ∧ St w0 S0 w' (L.set i (RQR q s')) :=
  St.call (fun w S h => rTake_c h hs hP) (RQR.ok _ _) H i hi
end
end Go.Proofs.Ytmikjbhhnndncaa
