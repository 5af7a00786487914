/- Layer 18: a queue's calls. -/
import Derived.Test.YtmikjbhhnndncaaOrdG
namespace Go.Proofs.Ytmikjbhhnndncaa
open Go.RowKit
set_option linter.unusedVariables false
set_option maxRecDepth 100000
set_option maxHeartbeats 2000000
section
variable {w0 w w' : World} {S0 S : Nat → Prop} {N L : List Res} {q : Nat} {s s' : OSt}
theorem New_o (H : St w0 S0 w L) : Calls Try.prog 10 #[] w fun e w' => ∃ p, e = .returned (.pointer (some ⟨p, 0, none⟩)) ∧ St w0 S0 w' (L ++ [OQR p OSt.new]) := by
  have t := (H.box 55 #[.slice none 0 0, .int .i64 0, .bool true]).lis_nil 32 3
  rw [List.append_assoc] at t
  have t2 := t.fold (R := OQR w.heap.size OSt.new) (OQR.ok _ _) fun S h => ⟨none, 0, h⟩
  have T2 := Lib.hid t2
  clear t t2 H
  go_enter Try.func10, Try.ntmps10
  go_wp2_with fail
  go_ret
  exact ⟨_, rfl, T2.out⟩
theorem Head_c (h : OQR q s w S) : Calls Try.prog 21 #[.pointer (some ⟨q, 0, none⟩)] w fun e w' => e = .returned (.tuple #[.int .i64 s.head, .bool s.up]) ∧ Below w.heap.size w w' := by
  obtain ⟨A, c, hh⟩ := h
  obtain ⟨c0, c1, c2⟩ := ((St.start hh).blk 0 rfl).three
  clear hh
  go_enter Try.func21, Try.ntmps21
  go_wp2_with fail
  go_quiet (fail)
  go_wp2_with fail
  go_ret2
  exact ⟨rfl, below_drewN (Below.refl _ _) _⟩
theorem Next_c (h : OQR q s w S) (hs : s.ok) {x : Wt} {up : Bool} {f : Int} (hn : NextP s x up f) :
    Calls Try.prog 19 #[.pointer (some ⟨q, 0, none⟩)] w fun e w' => e = .returned (.tuple #[x.v, .int .i64 f]) ∧ Below w.heap.size w w' := by
  have K : St w S w [OQR q s] := St.start (Star.one (OQR.ok q s) h)
  have u0 : St w None _ [BlkR w.heap.size 32 #[.int .i64 0, .int .u64 0, .int .i64 0]] := (St.begin w).box 32 #[.int .i64 0, .int .u64 0, .int .i64 0]
  obtain ⟨T, hT⟩ := (K.stay u0.below).get 0 rfl
  have N1 := Lib.hid (looks (next_c hT hs hn) u0)
  clear K u0 hT h hs hn
  go_enter Try.func19, Try.ntmps19
  go_wp2_with fail
  refine N1.out.mono ?_
  rintro e w1 ⟨rfl, u1⟩
  have u2 : St w None (w1.alloc (.cells #[.int .i64 x.id, .int .u64 x.dead, .int .i64 x.track] 32)) [BlkR w.heap.size 32 #[.int .i64 0, .int .u64 0, .int .i64 0], BlkR w1.heap.size 32 #[.int .i64 x.id, .int .u64 x.dead, .int .i64 x.track]] := St.box (L := [_]) u1 _ _
  have f0 := (u2.blk 0 rfl).frozen 0
  have f1 := (u2.blk 0 rfl).frozen 1
  have f2 := (u2.blk 0 rfl).frozen 2
  obtain ⟨c0, c1, c2⟩ : _ ∧ _ ∧ _ := (u2.blk 0 rfl).three
  obtain ⟨d0, d1, d2⟩ : _ ∧ _ ∧ _ := (u2.blk 1 rfl).three
  have u3 := ((u2.set_ 0 rfl 0 (.int .i64 x.id)).set_ 0 rfl 1 (.int .u64 x.dead)).set_ 0 rfl 2 (.int .i64 x.track)
  obtain ⟨k0, k1, k2⟩ : _ ∧ _ ∧ _ := (u3.blk 0 rfl).three
  have U3 := Lib.hid u3
  clear u1 u2 u3 N1
  unfold Wt.v
  go_wp2_with fail
  refine bodyPost_ret (v := .tuple #[x.v, .int .i64 f]) ?_ rfl ⟨rfl, U3.out.below⟩
  simp [results, Try.results19, go_sem, k0, k1, k2, Wt.v]
theorem place_w (K : St w0 S0 w L) (i : Nat) (hi : L[i]? = some (OQR q s)) (hs : s.ok) {id z : Int} (hz : FindW s.l id z) :
    Calls Try.prog 25 #[.pointer (some ⟨q, 0, none⟩), .int .i64 id] w fun e w' => e = .returned (.int .i64 z) ∧ St w0 S0 w' L := by
  obtain ⟨T, hT⟩ := K.get i hi
  exact looks (place_c hT hs hz) K
theorem Drop_c (h : OQR q s w S) (hs : s.ok) {id f : Int} (hP : DropP s id f s') :
    Calls Try.prog 15 #[.pointer (some ⟨q, 0, none⟩), .int .i64 id] w fun e w' => e = .returned (.int .i64 f) ∧ ∃ S', OQR q s' w' S' ∧ Did S S' w w' := by
  obtain ⟨A, c, hh⟩ := h
  have s0 : St w S w (OQL q A c s) := St.start hh
  have hlen := hs.len
  have hle : s.l.length ≤ 1000 := by omega
  obtain ⟨z, hz⟩ := findW_ex s.l id
  have PC := Lib.hid (looks (place_c ⟨A, c, hh⟩ hs hz) s0)
  rcases hP with ⟨hno, rfl, rfl⟩ | ⟨i, x, hx, rfl, rfl, rfl⟩
  · obtain rfl : z = -1 := by
      rcases hz with ⟨h, _⟩ | ⟨i, x, _, h1, h2, _⟩
      · exact h
      · exact absurd h2 (hno x (List.mem_of_getElem? h1))
    clear s0 hh hs hz hno
    go_enter Try.func15, Try.ntmps15
    go_wp2_with fail
    refine PC.out.mono ?_
    rintro e w1 ⟨rfl, s1⟩
    have S1 := Lib.hid s1
    clear PC s1
    go_wp2_with fail
    go_ret
    exact ⟨rfl, S1.out.fin fun S' h => ⟨A, c, h⟩⟩
  · obtain rfl : z = (i : Int) := by
      rcases hz with ⟨_, h⟩ | ⟨i', y, h0, h1, h2, h3⟩
      · exact absurd rfl (h x (List.mem_of_getElem? hx))
      · rw [h0, hs.one i' i y x h1 hx h2]
    have hil := (List.getElem?_eq_some_iff.1 hx).1
    have z1 : decide ((i : Int) < 0) = false := decide_eq_false (by omega)
    have HEL := Lib.hid (List.length_eraseIdx_of_lt hil)
    clear s0 hh hs hz hx
    obtain ⟨n, hn⟩ : ∃ n, s.l.length = n := ⟨_, rfl⟩
    have HN := Lib.hid hn
    rw [hn] at hil hle
    clear hn hlen
    have i0 : 0 ≤ (i : Int) := by omega
    go_enter Try.func15, Try.ntmps15
    go_wp2_with fail
    refine PC.out.mono ?_
    rintro e w1 ⟨rfl, s1⟩
    have s1' : St w S w1 [BlkR q 55 #[.slice A n c, .int .i64 s.head, .bool s.up], LisR 32 3 (.slice A n c) n (ovs s.l)] := by rw [← HN.out]; exact s1
    have q0 := (s1'.blk 0 rfl).three.1
    have DC := Lib.hid (DeleteW_o (i := 1) s1' rfl hle i hil)
    clear PC s1 s1'
    go_wp2_with fail
    refine DC.out.mono ?_
    rintro e w2 ⟨rfl, s2⟩
    have q1 := (s2.blk 0 rfl).three.1
    have f1 := (s2.blk 0 rfl).frozen 0
    have s3 := s2.set_ 0 rfl 0 (.slice A (n - 1) c)
    have S3 := Lib.hid s3
    clear DC s2 s3 q0
    go_wp2_with fail
    go_ret
    refine ⟨rfl, S3.out.fin fun S' h => ⟨A, c, ?_⟩⟩
    show Star [_, _] _ _
    rw [HEL.out, HN.out]
    exact h
theorem Drop_o (H : St w0 S0 w L) (i : Nat) (hi : L[i]? = some (OQR q s)) (hs : s.ok) {id f : Int} (hP : DropP s id f s') :
    Calls Try.prog 15 #[.pointer (some ⟨q, 0, none⟩), .int .i64 id] w fun e w' => e = .returned (.int .i64 f) ∧ St w0 S0 w' (L.set i (OQR q s')) :=
  St.call (fun w S h => Drop_c h hs hP) (OQR.ok _ _) H i hi
end
end Go.Proofs.Ytmikjbhhnndncaa
