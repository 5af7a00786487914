/- Layer 18: the nearest one on a way; the next one. -/
import Derived.Test.YtmikjbhhnndncaaOrdE
namespace Go.Proofs.Ytmikjbhhnndncaa
open Go.RowKit
set_option linter.unusedVariables false
set_option maxRecDepth 100000
set_option maxHeartbeats 1000000
section
variable {w0 w w' : World} {S0 S : Nat → Prop} {N L : List Res} {q : Nat} {s s' : OSt}
theorem nearest_c (h : OQR q s w S) (hs : s.ok) (up : Bool) {r : Option Wt} (hr : NearP s up s.l.length r) :
    Calls Try.prog 41 #[.pointer (some ⟨q, 0, none⟩), .bool up] w fun e w' => e = .returned (.tuple #[(nw r).v, .bool r.isSome]) ∧ Below w.heap.size w w' := by
  obtain ⟨A, c, hh⟩ := h
  have s0 : St w S w (OQL q A c s) := St.start hh
  -- boxes of the arguments, and of the result
  have u0 := (((St.begin w).box 24 #[.pointer (some ⟨q, 0, none⟩)]).box 4 #[.bool up]).box 32 #[.int .i64 0, .int .u64 0, .int .i64 0]
  rw [show ((w.alloc (.cells #[.pointer (some ⟨q, 0, none⟩)] 24)).alloc (.cells #[.bool up] 4)).heap.size = w.heap.size + 1 + 1 by simp, show (w.alloc (.cells #[.pointer (some ⟨q, 0, none⟩)] 24)).heap.size = w.heap.size + 1 by simp] at u0
  have u1 : St w None _ [BlkR w.heap.size 24 #[.pointer (some ⟨q, 0, none⟩)], BlkR (w.heap.size + 1) 4 #[.bool up], BlkR (w.heap.size + 1 + 1) 32 #[.int .i64 0, .int .u64 0, .int .i64 0]] := u0
  have p0 := (u1.blk 0 rfl).one
  have FC := Lib.hid (looks (first_c (s0.stay u1.below) 0 rfl rfl 1 rfl hs) u1)
  have HS := Lib.hid hs
  have HR := Lib.hid hr
  have S0' := Lib.hid s0
  clear u0 u1 s0 hh hs hr
  go_enter Try.func41, Try.ntmps41
  go_wp2_with fail
  refine FC.out.mono ?_
  rintro e w1 ⟨rfl, u2⟩
  have u3 : St w None (w1.alloc (.cells #[.int .u64 (firstD s.l)] 30)) [BlkR w.heap.size 24 #[.pointer (some ⟨q, 0, none⟩)], BlkR (w.heap.size + 1) 4 #[.bool up], BlkR (w.heap.size + 1 + 1) 32 #[.int .i64 0, .int .u64 0, .int .i64 0], BlkR w1.heap.size 30 #[.int .u64 (firstD s.l)]] := St.box (L := [_, _, _]) u2 _ _
  have p1 := (u3.blk 0 rfl).one
  have j3 : St w S (w1.alloc (.cells #[.int .u64 (firstD s.l)] 30)) (NearL q A c s w.heap.size (w.heap.size + 1) w1.heap.size up) := (S0'.out.join u3).drop 4 (by simp [OQL])
  have LC := Lib.hid (looks (least_c j3 HS.out HR.out) u3)
  clear u2 u3 j3 p0 FC
  go_wp2_with fail
  refine LC.out.mono ?_
  rintro e w2 ⟨rfl, u4⟩
  have f0 := (u4.blk 2 rfl).frozen 0
  have f1 := (u4.blk 2 rfl).frozen 1
  have f2 := (u4.blk 2 rfl).frozen 2
  obtain ⟨c0, c1, c2⟩ : _ ∧ _ ∧ _ := (u4.blk 2 rfl).three
  have u5 := ((u4.set_ 2 rfl 0 (.int .i64 (nw r).id)).set_ 2 rfl 1 (.int .u64 (nw r).dead)).set_ 2 rfl 2 (.int .i64 (nw r).track)
  obtain ⟨k0, k1, k2⟩ : _ ∧ _ ∧ _ := (u5.blk 2 rfl).three
  have U5 := Lib.hid u5
  clear u4 u5 LC p1
  unfold Wt.v
  go_wp2_with fail
  refine bodyPost_ret (v := .tuple #[(nw r).v, .bool r.isSome]) ?_ rfl ⟨rfl, U5.out.below⟩
  simp [results, Try.results41, go_sem, k0, k1, k2, Wt.v]
theorem nearest_o (H : St w0 S0 w L) (K : St w S w [OQR q s]) (hs : s.ok) (up : Bool) {r : Option Wt} (hr : NearP s up s.l.length r) {w1 : World} (hb : Below w.heap.size w w1) {L1 : List Res} (U : St w None w1 L1) :
    Calls Try.prog 41 #[.pointer (some ⟨q, 0, none⟩), .bool up] w1 fun e w' => e = .returned (.tuple #[(nw r).v, .bool r.isSome]) ∧ St w None w' L1 := by
  obtain ⟨T, hT⟩ := (K.stay hb).get 0 rfl
  exact looks (nearest_c hT hs up hr) U
/-- The next one. -/
theorem next_c (h : OQR q s w S) (hs : s.ok) {x : Wt} {up : Bool} {f : Int} (hn : NextP s x up f) :
    Calls Try.prog 30 #[.pointer (some ⟨q, 0, none⟩)] w fun e w' => e = .returned (.tuple #[x.v, .bool up, .int .i64 f]) ∧ Below w.heap.size w w' := by
  have K : St w S w [OQR q s] := St.start (Star.one (OQR.ok q s) h)
  obtain ⟨A, c, hh⟩ := h
  have s0 : St w S w (OQL q A c s) := St.start hh
  have u0 : St w None _ [BlkR w.heap.size 32 #[.int .i64 0, .int .u64 0, .int .i64 0]] := (St.begin w).box 32 #[.int .i64 0, .int .u64 0, .int .i64 0]
  have q2 := ((s0.stay u0.below).blk 0 rfl).three.2.2
  obtain ⟨r1, hr1⟩ := nearP_ex s s.up s.l.length (Nat.le_refl _)
  obtain ⟨r2, hr2⟩ := nearP_ex s (!s.up) s.l.length (Nat.le_refl _)
  have N1 := Lib.hid (nearest_o s0 K hs s.up hr1 u0.below u0)
  have N2 := Lib.hid (fun (w1 : World) (U : St w None w1 [BlkR w.heap.size 32 (nw r1).cells]) => nearest_o s0 K hs (!s.up) hr2 U.below U)
  obtain ⟨f0, f1, f2⟩ : (w.alloc (.cells #[.int .i64 0, .int .u64 0, .int .i64 0] 32)).frozen? ⟨w.heap.size, 0, none⟩ = false ∧ (w.alloc (.cells #[.int .i64 0, .int .u64 0, .int .i64 0] 32)).frozen? ⟨w.heap.size, 1, none⟩ = false ∧ (w.alloc (.cells #[.int .i64 0, .int .u64 0, .int .i64 0] 32)).frozen? ⟨w.heap.size, 2, none⟩ = false := ⟨(u0.blk 0 rfl).frozen 0, (u0.blk 0 rfl).frozen 1, (u0.blk 0 rfl).frozen 2⟩
  have HS := Lib.hid hs
  have HN := Lib.hid hn
  have H1 := Lib.hid hr1
  have H2 := Lib.hid hr2
  clear u0 s0 hh hs hn hr1 hr2 K f0 f1 f2
  generalize hup : s.up = sup at *
  have HUP := Lib.hid hup
  clear hup
  go_enter Try.func30, Try.ntmps30
  go_wp2_with fail
  refine N1.out.mono ?_
  rintro e w1 ⟨rfl, u1⟩
  have f0 := (u1.blk 0 rfl).frozen 0
  have f1 := (u1.blk 0 rfl).frozen 1
  have f2 := (u1.blk 0 rfl).frozen 2
  obtain ⟨c0, c1, c2⟩ : _ ∧ _ ∧ _ := (u1.blk 0 rfl).three
  cases r1 with
  | some y =>
    obtain ⟨rfl, rfl, rfl⟩ : x = y ∧ up = sup ∧ f = 0 := HN.out.uniq HS.out (Or.inr (Or.inl ⟨by rw [HUP.out]; exact H1.out, HUP.out.symm, rfl⟩))
    rw [show nw (some x) = x from rfl]
    have u2 : St w None _ [BlkR w.heap.size 32 (x).cells] := ((u1.set_ 0 rfl 0 (.int .i64 (x).id)).set_ 0 rfl 1 (.int .u64 (x).dead)).set_ 0 rfl 2 (.int .i64 (x).track)
    have g0 := (u2.blk 0 rfl).frozen 0
    have g1 := (u2.blk 0 rfl).frozen 1
    have g2 := (u2.blk 0 rfl).frozen 2
    obtain ⟨k0, k1, k2⟩ : _ ∧ _ ∧ _ := (u2.blk 0 rfl).three
    have u3 : St w None _ [BlkR w.heap.size 32 (x).cells] := ((u2.set_ 0 rfl 0 (.int .i64 (x).id)).set_ 0 rfl 1 (.int .u64 (x).dead)).set_ 0 rfl 2 (.int .i64 (x).track)
    obtain ⟨l0, l1, l2⟩ : _ ∧ _ ∧ _ := (u3.blk 0 rfl).three
    have U3 := Lib.hid u3
    clear u1 u2 u3 N1 N2 HN H1 H2
    unfold Wt.v
    go_wp2_with fail
    refine bodyPost_ret (v := .tuple #[x.v, .bool up, .int .i64 0]) ?_ rfl ⟨rfl, U3.out.below⟩
    simp [results, Try.results30, go_sem, l0, l1, l2, Wt.v]
  | none =>
    have hz : nw none = (⟨0, 0, 0⟩ : Wt) := rfl
    rw [hz]
    have u2 : St w None _ [BlkR w.heap.size 32 (nw none).cells] := ((u1.set_ 0 rfl 0 (.int .i64 0)).set_ 0 rfl 1 (.int .u64 0)).set_ 0 rfl 2 (.int .i64 0)
    have D2 := Lib.hid (N2.out _ u2)
    clear u2 N1 N2 u1
    unfold Wt.v
    dsimp only
    go_wp2_with fail
    refine D2.out.mono ?_
    rintro e w2 ⟨rfl, u1⟩
    have u1 : St w None w2 [BlkR w.heap.size 32 #[.int .i64 0, .int .u64 0, .int .i64 0]] := u1
    clear D2 f0 f1 f2 c0 c1 c2
    have f0 := (u1.blk 0 rfl).frozen 0
    have f1 := (u1.blk 0 rfl).frozen 1
    have f2 := (u1.blk 0 rfl).frozen 2
    obtain ⟨c0, c1, c2⟩ : _ ∧ _ ∧ _ := (u1.blk 0 rfl).three
    cases r2 with
    | some y =>
      obtain ⟨rfl, rfl, rfl⟩ : x = y ∧ up = (!sup) ∧ f = 0 := HN.out.uniq HS.out (Or.inr (Or.inr ⟨by rw [HUP.out]; exact H1.out, by rw [HUP.out]; exact H2.out, by rw [HUP.out], rfl⟩))
      rw [show nw (some x) = x from rfl]
      have u2 : St w None _ [BlkR w.heap.size 32 (x).cells] := ((u1.set_ 0 rfl 0 (.int .i64 (x).id)).set_ 0 rfl 1 (.int .u64 (x).dead)).set_ 0 rfl 2 (.int .i64 (x).track)
      have g0 := (u2.blk 0 rfl).frozen 0
      have g1 := (u2.blk 0 rfl).frozen 1
      have g2 := (u2.blk 0 rfl).frozen 2
      obtain ⟨k0, k1, k2⟩ : _ ∧ _ ∧ _ := (u2.blk 0 rfl).three
      have u3 : St w None _ [BlkR w.heap.size 32 (x).cells] := ((u2.set_ 0 rfl 0 (.int .i64 (x).id)).set_ 0 rfl 1 (.int .u64 (x).dead)).set_ 0 rfl 2 (.int .i64 (x).track)
      obtain ⟨l0, l1, l2⟩ : _ ∧ _ ∧ _ := (u3.blk 0 rfl).three
      have U3 := Lib.hid u3
      clear u1 u2 u3 HN H1 H2
      unfold Wt.v
      go_wp2_with fail
      refine bodyPost_ret (v := .tuple #[x.v, .bool (!sup), .int .i64 0]) ?_ rfl ⟨rfl, U3.out.below⟩
      simp [results, Try.results30, go_sem, l0, l1, l2, Wt.v]
    | none =>
      rw [hz]
      obtain ⟨rfl, rfl, rfl⟩ : x = ⟨0, 0, 0⟩ ∧ up = false ∧ f = 5 := by
        rcases HN.out with ⟨_, h1, h2, h3⟩ | ⟨h1, _, _⟩ | ⟨_, h1, _, _⟩
        · exact ⟨h1, h2, h3⟩
        · have := NearP.uniq HS.out h1 (by rw [HUP.out]; exact H1.out); cases this
        · have := NearP.uniq HS.out h1 (by rw [HUP.out]; exact H2.out); cases this
      have u2 : St w None _ [BlkR w.heap.size 32 ((⟨0, 0, 0⟩ : Wt)).cells] := ((u1.set_ 0 rfl 0 (.int .i64 ((⟨0, 0, 0⟩ : Wt)).id)).set_ 0 rfl 1 (.int .u64 ((⟨0, 0, 0⟩ : Wt)).dead)).set_ 0 rfl 2 (.int .i64 ((⟨0, 0, 0⟩ : Wt)).track)
      have g0 := (u2.blk 0 rfl).frozen 0
      have g1 := (u2.blk 0 rfl).frozen 1
      have g2 := (u2.blk 0 rfl).frozen 2
      obtain ⟨k0, k1, k2⟩ : _ ∧ _ ∧ _ := (u2.blk 0 rfl).three
      have u3 : St w None _ [BlkR w.heap.size 32 ((⟨0, 0, 0⟩ : Wt)).cells] := ((u2.set_ 0 rfl 0 (.int .i64 ((⟨0, 0, 0⟩ : Wt)).id)).set_ 0 rfl 1 (.int .u64 ((⟨0, 0, 0⟩ : Wt)).dead)).set_ 0 rfl 2 (.int .i64 ((⟨0, 0, 0⟩ : Wt)).track)
      obtain ⟨l0, l1, l2⟩ : _ ∧ _ ∧ _ := (u3.blk 0 rfl).three
      have U3 := Lib.hid u3
      clear u1 u2 u3 HN H1 H2
      unfold Wt.v
      dsimp only at *
      go_wp2_with fail
      refine bodyPost_ret (v := .tuple #[(⟨0, 0, 0⟩ : Wt).v, .bool false, .int .i64 5]) ?_ rfl ⟨rfl, U3.out.below⟩
      simp [results, Try.results30, go_sem, l0, l1, l2, Wt.v]
end
end Go.Proofs.Ytmikjbhhnndncaa
