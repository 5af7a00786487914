/- Layer 18: taking; the calls among other things. -/
import Derived.Test.YtmikjbhhnndncaaOrdI
namespace Go.Proofs.Ytmikjbhhnndncaa
open Go.RowKit
set_option linter.unusedVariables false
set_option maxRecDepth 100000
set_option maxHeartbeats 2000000
theorem St.unfoldX {α : Type} {w0 w : World} {S0 : Nat → Prop} {A : List Res} {R : Res} {B : α → List Res} {Q : α → Prop} (h : St w0 S0 w (A ++ [R])) (hr : ∀ S, R w S → ∃ x, Q x ∧ Star (B x) w S) : ∃ x, Q x ∧ St w0 S0 w (A ++ B x) := by
  obtain ⟨S, ⟨F, f1, f2, f3, f4⟩, hd⟩ := h
  obtain ⟨x, hq, hB⟩ := hr _ (f1 A.length R (by simp)).2
  have hA : Star A w (fun b => ∃ i, i < A.length ∧ F i b) := ⟨fun i b => i < A.length ∧ F i b, fun i R hR => by
      have hi : i < A.length := by
        rcases Nat.lt_or_ge i A.length with h | h
        · exact h
        · rw [List.getElem?_eq_none h] at hR; cases hR
      have e : (fun b => i < A.length ∧ F i b) = F i := funext fun b => propext ⟨fun h => h.2, fun h => ⟨hi, h⟩⟩
      dsimp only; rw [e]; exact f1 i R (by rw [List.getElem?_append_left hi]; exact hR), fun i j b hi hj => f2 i j b hi.2 hj.2, fun i b hi => hi.1, fun b => Iff.rfl⟩
  have hj := Star.append hA hB (fun b ⟨i, hi, h1⟩ h2 => by have := f2 i _ b h1 h2; omega)
  have e : (fun b => (∃ i, i < A.length ∧ F i b) ∨ F A.length b) = S := funext fun b => propext ⟨fun h => (f4 b).2 (h.elim (fun ⟨i, _, h⟩ => ⟨i, h⟩) fun h => ⟨_, h⟩), fun h => by
    obtain ⟨i, hi⟩ := (f4 b).1 h
    have hl := f3 i b hi
    simp at hl
    rcases Nat.lt_or_ge i A.length with hl' | hl'
    · exact Or.inl ⟨i, hl', hi⟩
    · obtain rfl : i = A.length := by omega
      exact Or.inr hi⟩
  rw [e] at hj
  exact ⟨x, hq, S, hj, hd⟩
section
variable {w0 w w' : World} {S0 S : Nat → Prop} {N L : List Res} {q : Nat} {s s' : OSt}
theorem Take_c (h : OQR q s w S) (hs : s.ok) {x : Wt} {f : Int} (hP : TakeP s x f s') :
    Calls Try.prog 17 #[.pointer (some ⟨q, 0, none⟩)] w fun e w' => e = .returned (.tuple #[x.v, .int .i64 f]) ∧ ∃ S', OQR q s' w' S' ∧ Did S S' w w' := by
  obtain ⟨up, hn, hP⟩ := hP
  have K0 : St w S w [OQR q s] := St.start (Star.one (OQR.ok q s) h)
  have K1 : St w S _ [OQR q s, BlkR w.heap.size 32 #[.int .i64 0, .int .u64 0, .int .i64 0]] := St.box (L := [_]) K0 32 #[.int .i64 0, .int .u64 0, .int .i64 0]
  obtain ⟨T, hT⟩ := K1.get 0 rfl
  have N1 := Lib.hid (looks (next_c hT hs hn) K1)
  have HS := Lib.hid hs
  have HNX := Lib.hid hn
  clear K0 K1 hT h hs hn
  go_enter Try.func17, Try.ntmps17
  go_wp2_with fail
  refine N1.out.mono ?_
  rintro e w1 ⟨rfl, u1⟩
  have u2 : St w S (w1.alloc (.cells #[.int .i64 x.id, .int .u64 x.dead, .int .i64 x.track] 32)) [OQR q s, BlkR w.heap.size 32 #[.int .i64 0, .int .u64 0, .int .i64 0], BlkR w1.heap.size 32 #[.int .i64 x.id, .int .u64 x.dead, .int .i64 x.track]] := St.box (L := [_, _]) u1 _ _
  have f0 := (u2.blk 1 rfl).frozen 0
  have f1 := (u2.blk 1 rfl).frozen 1
  have f2 := (u2.blk 1 rfl).frozen 2
  obtain ⟨c0, c1, c2⟩ : _ ∧ _ ∧ _ := (u2.blk 1 rfl).three
  obtain ⟨d0, d1, d2⟩ : _ ∧ _ ∧ _ := (u2.blk 2 rfl).three
  have U2 := Lib.hid u2
  clear u1 u2 N1
  unfold Wt.v
  rcases hP with ⟨rfl, rfl⟩ | ⟨rfl, i, hi, rfl⟩
  · have u3 := ((U2.out.set_ 1 rfl 0 (.int .i64 x.id)).set_ 1 rfl 1 (.int .u64 x.dead)).set_ 1 rfl 2 (.int .i64 x.track)
    obtain ⟨k0, k1, k2⟩ : _ ∧ _ ∧ _ := (u3.blk 1 rfl).three
    have U3 := Lib.hid (u3.take 1)
    clear u3 U2
    go_wp2_with fail
    refine bodyPost_ret (v := .tuple #[x.v, .int .i64 5]) ?_ rfl ⟨rfl, U3.out.fin fun S' h => star_one h⟩
    simp [results, Try.results17, go_sem, k0, k1, k2, Wt.v]
  · have DC := Lib.hid (Drop_o U2.out 0 rfl HS.out (id := x.id) (f := 0) (s' := { s with l := s.l.eraseIdx i }) (Or.inr ⟨i, x, hi, rfl, rfl, rfl⟩))
    clear U2 hi
    go_wp2_with fail
    refine DC.out.mono ?_
    rintro e w2 ⟨rfl, u3⟩
    have u3 : St w S w2 [OQR q { s with l := s.l.eraseIdx i }, BlkR w.heap.size 32 #[.int .i64 0, .int .u64 0, .int .i64 0], BlkR w1.heap.size 32 #[.int .i64 x.id, .int .u64 x.dead, .int .i64 x.track]] := u3
    clear f0 f1 f2 c0 c1 c2 d0 d1 d2 DC
    have u4 := St.comm (A := [_]) (B := [_, _]) u3
    obtain ⟨⟨A, c⟩, -, hr⟩ := u4.unfoldX (B := fun y : Option Addr × Nat => OQL q y.1 y.2 { s with l := s.l.eraseIdx i }) (Q := fun _ => True) fun T ⟨A, c, h⟩ => ⟨(A, c), trivial, h⟩
    have u5 : St w S w2 [BlkR w.heap.size 32 #[.int .i64 0, .int .u64 0, .int .i64 0], BlkR w1.heap.size 32 #[.int .i64 x.id, .int .u64 x.dead, .int .i64 x.track], BlkR q 55 #[.slice A (s.l.eraseIdx i).length c, .int .i64 s.head, .bool s.up], LisR 32 3 (.slice A (s.l.eraseIdx i).length c) (s.l.eraseIdx i).length (ovs (s.l.eraseIdx i))] := hr
    have f0 := (u5.blk 0 rfl).frozen 0
    have f1 := (u5.blk 0 rfl).frozen 1
    have f2 := (u5.blk 0 rfl).frozen 2
    obtain ⟨c0, c1, c2⟩ := (u5.blk 0 rfl).three
    obtain ⟨d0, d1, d2⟩ := (u5.blk 1 rfl).three
    obtain ⟨q0, q1, q2⟩ := (u5.blk 2 rfl).three
    have g1 := (u5.blk 2 rfl).frozen 1
    have g2 := (u5.blk 2 rfl).frozen 2
    have u6 := (u5.set_ 2 rfl 1 (.int .i64 x.track)).set_ 2 rfl 2 (.bool up)
    obtain ⟨v0, v1, v2⟩ : _ ∧ _ ∧ _ := (u6.blk 1 rfl).three
    obtain ⟨x0, x1, x2⟩ : _ ∧ _ ∧ _ := (u6.blk 0 rfl).three
    have y0 := (u6.blk 0 rfl).frozen 0
    have y1 := (u6.blk 0 rfl).frozen 1
    have y2 := (u6.blk 0 rfl).frozen 2
    have u7 := ((u6.set_ 0 rfl 0 (.int .i64 x.id)).set_ 0 rfl 1 (.int .u64 x.dead)).set_ 0 rfl 2 (.int .i64 x.track)
    obtain ⟨k0, k1, k2⟩ : _ ∧ _ ∧ _ := (u7.blk 0 rfl).three
    have U7 := Lib.hid ((u7.drop 0 (by simp)).drop 0 (by simp))
    clear u3 u4 hr u5 u6 u7
    go_wp2_with fail
    refine bodyPost_ret (v := .tuple #[x.v, .int .i64 0]) ?_ rfl ⟨rfl, U7.out.fin fun S' h => ⟨A, c, h⟩⟩
    simp [results, Try.results17, go_sem, k0, k1, k2, Wt.v]
/-! ### Among other things -/
theorem Add_o (H : St w0 S0 w L) (i : Nat) (hi : L[i]? = some (OQR q s)) (hs : s.ok) {x : Wt} (hx : 0 ≤ x.dead) {f : Int} (hP : AddP s x f s') :
    Calls Try.prog 11 #[.pointer (some ⟨q, 0, none⟩), .agg #[.int .i64 x.id, .int .u64 x.dead, .int .i64 x.track]] w fun e w' => e = .returned (.int .i64 f) ∧ St w0 S0 w' (L.set i (OQR q s')) :=
  St.call (fun w S h => Add_c h hs hx hP) (OQR.ok _ _) H i hi
theorem Take_o (H : St w0 S0 w L) (i : Nat) (hi : L[i]? = some (OQR q s)) (hs : s.ok) {x : Wt} {f : Int} (hP : TakeP s x f s') :
    Calls Try.prog 17 #[.pointer (some ⟨q, 0, none⟩)] w fun e w' => e = .returned (.tuple #[.agg #[.int .i64 x.id, .int .u64 x.dead, .int .i64 x.track], .int .i64 f]) ∧ St w0 S0 w' (L.set i (OQR q s')) :=
  St.call (fun w S h => Take_c h hs hP) (OQR.ok _ _) H i hi
theorem Next_o (H : St w0 S0 w L) (i : Nat) (hi : L[i]? = some (OQR q s)) (hs : s.ok) {x : Wt} {up : Bool} {f : Int} (hP : NextP s x up f) :
    Calls Try.prog 19 #[.pointer (some ⟨q, 0, none⟩)] w fun e w' => e = .returned (.tuple #[.agg #[.int .i64 x.id, .int .u64 x.dead, .int .i64 x.track], .int .i64 f]) ∧ St w0 S0 w' L := by
  obtain ⟨T, hT⟩ := H.get i hi
  exact looks (Next_c hT hs hP) H
theorem Head_o (H : St w0 S0 w L) (i : Nat) (hi : L[i]? = some (OQR q s)) :
    Calls Try.prog 21 #[.pointer (some ⟨q, 0, none⟩)] w fun e w' => e = .returned (.tuple #[.int .i64 s.head, .bool s.up]) ∧ St w0 S0 w' L := by
  obtain ⟨T, hT⟩ := H.get i hi
  exact looks (Head_c hT) H
end
end Go.Proofs.Ytmikjbhhnndncaa
