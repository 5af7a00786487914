/- Layer 18: adding, taking. -/
import Derived.Test.YtmikjbhhnndncaaOrdH
namespace Go.Proofs.Ytmikjbhhnndncaa
open Go.RowKit
set_option linter.unusedVariables false
set_option maxRecDepth 100000
set_option maxHeartbeats 2000000
section
variable {w0 w w' : World} {S0 S : Nat → Prop} {N L : List Res} {q : Nat} {s s' : OSt}
theorem Add_c (h : OQR q s w S) (hs : s.ok) {x : Wt} (hx : 0 ≤ x.dead) {f : Int} (hP : AddP s x f s') :
    Calls Try.prog 11 #[.pointer (some ⟨q, 0, none⟩), x.v] w fun e w' => e = .returned (.int .i64 f) ∧ ∃ S', OQR q s' w' S' ∧ Did S S' w w' := by
  obtain ⟨A, c, hh⟩ := h
  have s0 : St w S w (OQL q A c s) := St.start hh
  have s1 : St w S (w.alloc (.cells #[.int .i64 x.id, .int .u64 x.dead, .int .i64 x.track] 32)) (OQL q A c s ++ [BlkR w.heap.size 32 #[.int .i64 x.id, .int .u64 x.dead, .int .i64 x.track]]) := s0.box _ _
  obtain ⟨e0, e1, e2⟩ := (s1.blk 2 rfl).three
  have MC := Lib.hid (fun b hb => looks (May_c x (w.alloc (.cells #[.int .i64 x.id, .int .u64 x.dead, .int .i64 x.track] 32)) hx b hb) s1)
  have PL' := Lib.hid (fun (w1 : World) (K : St w S w1 (OQL q A c s ++ [BlkR w.heap.size 32 #[.int .i64 x.id, .int .u64 x.dead, .int .i64 x.track]])) (z : Int) (hz : FindW s.l x.id z) => by
    obtain ⟨T, hT⟩ : ∃ T, Star (OQL q A c s) w1 T := (K.take 2).imp fun T h => h.1
    exact looks (place_c ⟨A, c, hT⟩ hs hz) K)
  have HS := Lib.hid hs
  obtain ⟨z, hz⟩ := findW_ex s.l x.id
  have HZ := Lib.hid hz
  have hlen := hs.len
  clear s0 s1 hh hs hx hz
  unfold Wt.v at *
  rcases hP with ⟨hm, rfl, rfl⟩ | ⟨hm, hex, rfl, rfl⟩ | ⟨hm, hno, hfull, rfl, rfl⟩ | ⟨hm, hno, hroom, rfl, rfl⟩
  · have M1 := Lib.hid (MC.out false (decide_eq_false hm).symm)
    clear hm MC PL'
    go_enter Try.func11, Try.ntmps11
    go_wp2_with fail
    refine M1.out.mono ?_
    rintro e w1 ⟨rfl, s2⟩
    have S2 := Lib.hid (s2.take 2)
    clear M1 s2
    go_wp2_with fail
    go_ret
    exact ⟨rfl, S2.out.fin fun S' h => ⟨A, c, h⟩⟩
  · have M1 := Lib.hid (MC.out true (decide_eq_true hm).symm)
    obtain ⟨i, rfl⟩ : ∃ i : Nat, z = (i : Int) := by
      rcases HZ.out with ⟨_, h⟩ | ⟨i, _, h, _⟩
      · obtain ⟨y, hy, e⟩ := hex; exact absurd e (h y hy)
      · exact ⟨i, h⟩
    have z1 : decide ((0 : Int) ≤ (i : Int)) = true := decide_eq_true (by omega)
    clear hm MC hex
    go_enter Try.func11, Try.ntmps11
    go_wp2_with fail
    refine M1.out.mono ?_
    rintro e w1 ⟨rfl, s2⟩
    obtain ⟨b0, b1, b2⟩ := (s2.blk 2 rfl).three
    have P1 := Lib.hid (PL'.out w1 s2 _ HZ.out)
    clear M1 s2
    go_wp2_with fail
    refine P1.out.mono ?_
    rintro e w2 ⟨rfl, s3⟩
    have S3 := Lib.hid (s3.take 2)
    clear P1 s3
    go_wp2_with fail
    go_ret
    exact ⟨rfl, S3.out.fin fun S' h => ⟨A, c, h⟩⟩
  all_goals
    have M1 := Lib.hid (MC.out true (decide_eq_true hm).symm)
    obtain rfl : z = -1 := by
      rcases HZ.out with ⟨h, _⟩ | ⟨i, y, _, h1, h2, _⟩
      · exact h
      · exact absurd h2 (hno y (List.mem_of_getElem? h1))
    clear hm MC hno
  · obtain ⟨n, hn⟩ : ∃ n, s'.l.length = n := ⟨_, rfl⟩
    have HN := Lib.hid hn
    rw [hn] at hfull
    clear hn
    subst hfull
    go_enter Try.func11, Try.ntmps11
    go_wp2_with fail
    refine M1.out.mono ?_
    rintro e w1 ⟨rfl, s2⟩
    obtain ⟨b0, b1, b2⟩ := (s2.blk 2 rfl).three
    have P1 := Lib.hid (PL'.out w1 s2 _ HZ.out)
    clear M1 s2
    go_wp2_with fail
    refine P1.out.mono ?_
    rintro e w2 ⟨rfl, s3⟩
    have q0 : w2.cell? ⟨q, 0, none⟩ = some (.slice A 64 c) := by rw [← HN.out]; exact (s3.blk 0 rfl).three.1
    have S3 := Lib.hid (s3.take 2)
    clear P1 s3
    go_wp2_with fail
    go_ret
    exact ⟨rfl, S3.out.fin fun S' h => ⟨A, c, h⟩⟩
  · obtain ⟨n, hn⟩ : ∃ n, s.l.length = n := ⟨_, rfl⟩
    have HN := Lib.hid hn
    rw [hn] at hroom hlen
    clear hn
    have z2 : ((n : Int) == 64) = false := beq_eq_false_iff_ne.2 (by omega)
    obtain ⟨iI, hiI, hzI, hsI, hbI⟩ := info3o Try.infoWant
    go_enter Try.func11, Try.ntmps11
    go_wp2_with fail
    refine M1.out.mono ?_
    rintro e w1 ⟨rfl, s2⟩
    obtain ⟨b0, b1, b2⟩ := (s2.blk 2 rfl).three
    have P1 := Lib.hid (PL'.out w1 s2 _ HZ.out)
    clear M1 s2
    go_wp2_with fail
    refine P1.out.mono ?_
    rintro e w2 ⟨rfl, s3⟩
    have q0 : w2.cell? ⟨q, 0, none⟩ = some (.slice A n c) := by rw [← HN.out]; exact (s3.blk 0 rfl).three.1
    obtain ⟨d0, d1, d2⟩ := (s3.blk 2 rfl).three
    have s3' : St w S w2 [BlkR q 55 #[.slice A n c, .int .i64 s.head, .bool s.up], LisR 32 3 (.slice A n c) n (ovs s.l)] := by rw [← HN.out]; exact s3.take 2
    have s4 := (s3'.alloc (.cells #[.int .i64 x.id, .int .u64 x.dead, .int .i64 x.track] 32)).drew
    have q1 := (s4.blk 0 rfl).three.1
    have r0 := cell_alloc d0 (.cells #[.int .i64 x.id, .int .u64 x.dead, .int .i64 x.track] 32)
    have r1 := cell_alloc d1 (.cells #[.int .i64 x.id, .int .u64 x.dead, .int .i64 x.track] 32)
    have r2 := cell_alloc d2 (.cells #[.int .i64 x.id, .int .u64 x.dead, .int .i64 x.track] 32)
    have RB := Lib.hid (show Rds ((w2.alloc (.cells #[.int .i64 x.id, .int .u64 x.dead, .int .i64 x.track] 32)).drew) (some ⟨w2.heap.size, 0, none⟩) 1 3 (ovs [x]) from by
      refine ⟨rfl, Or.inr ⟨_, _, rfl, fun j u hu => ?_⟩⟩
      rw [Nat.zero_add]
      refine ((Blk.new w2 32 #[.int .i64 x.id, .int .u64 x.dead, .int .i64 x.track]).cell j).trans ?_
      simpa [ovs] using hu)
    have hl4 := s4.lis 1 rfl
    have HL4 := Lib.hid hl4
    have S4 := Lib.hid s4
    have hcap : n ≤ c ∧ c ≤ maxLen := by
      obtain ⟨A', c', hv, h1, h2⟩ := hl4.shape
      injection hv with _ _ hv
      subst hv; exact ⟨h1, h2⟩
    unfold maxLen at hcap
    clear P1 s3 s3' s4 hl4 PL'
    go_wp2_with fail
    go_region_law (first
      | (refine step_lis (by rfl) _ _ _ (by rfl) 32 iI (.agg #[.int .i64 0, .int .u64 0, .int .i64 0]) 3 24 Try.underlying27 hiI hzI hsI hbI (by rfl) (by omega) (.slice A n c) n (ovs s.l) (by rfl) HL4.out _ 1 1 (ovs [x]) (by rfl) RB.out (ovs_one _) (by unfold maxLen; omega) (by omega) ?_; intro B cB w5 hl hg hat; have t5 := S4.out.lis_put 1 rfl hl hg hat; have m1 := (t5.blk 0 rfl).three.1; have g1 := (t5.blk 0 rfl).frozen 0; have T6 := Lib.hid (t5.set_ 0 rfl 0 (.slice B (n + 1) cB)); clear hl hg hat t5))
    all_goals
      go_wp2_with fail
      go_ret
      refine ⟨rfl, T6.out.fin fun S' h => ⟨B, cB, ?_⟩⟩
      show Star [_, _] _ _
      rw [List.length_append, HN.out, ovs_app]
      exact h
end
end Go.Proofs.Ytmikjbhhnndncaa
