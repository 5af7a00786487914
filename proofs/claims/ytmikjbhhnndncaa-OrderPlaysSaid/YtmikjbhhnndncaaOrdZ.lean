/- Layer 18: the document's queue: adding. Printed by bin/genOrdZ.py. -/
import Derived.Test.YtmikjbhhnndncaaOrdY
import Derived.Test.YtmikjbhhnndncaaOrdJ
namespace Go.Proofs.Ytmikjbhhnndncaa
open Go.RowKit
set_option linter.unusedVariables false
set_option maxRecDepth 100000
set_option maxHeartbeats 2000000
def RQL (q : Nat) (A : Option Addr) (c : Nat) (s : OSt) : List Res :=
  [BlkR q 29 #[.slice A s.l.length c, .int .i64 s.head, .bool (!s.up)], LisR 32 3 (.slice A s.l.length c) s.l.length (ovs s.l)]
def RQR (q : Nat) (s : OSt) : Res := fun w S => ∃ A c, Star (RQL q A c s) w S
theorem RQR.ok (q : Nat) (s : OSt) : Ok (RQR q s) :=
  ⟨fun ⟨A, c, h⟩ b hb => (Star.ok _).lt h b hb, fun ⟨A, c, h⟩ hk => ⟨A, c, (Star.ok _).frame h hk⟩⟩
theorem rtmay (t : Int) (w : World) (b : Bool) (hb : b = decide (t < 4611686018427387904)) : Calls Try.prog 28 #[.int .u64 t] w fun e w' => e = .returned (.bool b) ∧ w = w' := by
  by_cases h : t < 4611686018427387904
  · obtain rfl : b = true := by rw [hb]; exact decide_eq_true h
    have d : decide (t ≤ 4611686018427387903) = true := decide_eq_true (by omega)
    clear hb h
    go_enter Try.func28, Try.ntmps28
    go_wp2_with fail
    go_ret
    exact ⟨rfl, rfl⟩
  · obtain rfl : b = false := by rw [hb]; exact decide_eq_false h
    have d : decide (t ≤ 4611686018427387903) = false := decide_eq_false (by omega)
    clear hb h
    go_enter Try.func28, Try.ntmps28
    go_wp2_with fail
    go_ret
    exact ⟨rfl, rfl⟩
theorem rMay_c (x : Wt) (w : World) (hx : 0 ≤ x.dead) (b : Bool) (hb : b = decide (mayW x)) :
    Calls Try.prog 14 #[x.v] w fun e w' => e = .returned (.bool b) ∧ Below w.heap.size w w' := by
  obtain ⟨q0, q1, q2⟩ := (Blk.new w 32 #[.int .i64 x.id, .int .u64 x.dead, .int .i64 x.track]).three
  unfold Wt.v
  by_cases h0 : 0 ≤ x.id
  case neg =>
    obtain rfl : b = false := by rw [hb]; exact decide_eq_false fun h => by unfold mayW at h; omega
    have d0 : decide (0 ≤ x.id) = false := decide_eq_false h0
    clear hb h0 hx
    go_enter Try.func14, Try.ntmps14
    go_wp2_with fail
    go_ret
    exact ⟨rfl, (Below.refl _ _).alloc (Nat.le_refl _) _⟩
  have d0 : decide (0 ≤ x.id) = true := decide_eq_true h0
  by_cases h1 : x.id < 65536
  case neg =>
    obtain rfl : b = false := by rw [hb]; exact decide_eq_false fun h => by unfold mayW at h; omega
    have d1 : decide (x.id < 65536) = false := decide_eq_false h1
    clear hb h0 h1 hx
    go_enter Try.func14, Try.ntmps14
    go_wp2_with fail
    go_ret
    exact ⟨rfl, (Below.refl _ _).alloc (Nat.le_refl _) _⟩
  have d1 : decide (x.id < 65536) = true := decide_eq_true h1
  by_cases h2 : x.dead < 4611686018427387904
  case neg =>
    obtain rfl : b = false := by rw [hb]; exact decide_eq_false fun h => by unfold mayW at h; omega
    have TM := Lib.hid (show false = decide (x.dead < 4611686018427387904) from (decide_eq_false h2).symm)
    clear hb h0 h1 h2 hx
    go_enter Try.func14, Try.ntmps14
    go_wp2_with fail
    refine (rtmay x.dead _ _ TM.out).mono ?_
    rintro e w1 ⟨rfl, rfl⟩
    go_wp2_with fail
    go_ret
    exact ⟨rfl, (Below.refl _ _).alloc (Nat.le_refl _) _⟩
  by_cases h3 : 0 ≤ x.track
  case neg =>
    obtain rfl : b = false := by rw [hb]; exact decide_eq_false fun h => by unfold mayW at h; omega
    have TM := Lib.hid (show true = decide (x.dead < 4611686018427387904) from (decide_eq_true h2).symm)
    have d3 : decide (0 ≤ x.track) = false := decide_eq_false h3
    clear hb h0 h1 h2 h3 hx
    go_enter Try.func14, Try.ntmps14
    go_wp2_with fail
    refine (rtmay x.dead _ _ TM.out).mono ?_
    rintro e w1 ⟨rfl, rfl⟩
    go_wp2_with fail
    go_ret
    exact ⟨rfl, (Below.refl _ _).alloc (Nat.le_refl _) _⟩
  have d3 : decide (0 ≤ x.track) = true := decide_eq_true h3
  by_cases h4 : x.track ≤ 1048576
  case neg =>
    obtain rfl : b = false := by rw [hb]; exact decide_eq_false fun h => by unfold mayW at h; omega
    have TM := Lib.hid (show true = decide (x.dead < 4611686018427387904) from (decide_eq_true h2).symm)
    have d4 : decide (x.track ≤ 1048576) = false := decide_eq_false h4
    clear hb h0 h1 h2 h3 h4 hx
    go_enter Try.func14, Try.ntmps14
    go_wp2_with fail
    refine (rtmay x.dead _ _ TM.out).mono ?_
    rintro e w1 ⟨rfl, rfl⟩
    go_wp2_with fail
    go_ret
    exact ⟨rfl, (Below.refl _ _).alloc (Nat.le_refl _) _⟩
  have d4 : decide (x.track ≤ 1048576) = true := decide_eq_true h4
  obtain rfl : b = true := by rw [hb]; exact decide_eq_true (by unfold mayW; omega)
  have TM := Lib.hid (show true = decide (x.dead < 4611686018427387904) from (decide_eq_true h2).symm)
  clear hb h0 h1 h2 h3 h4 hx
  go_enter Try.func14, Try.ntmps14
  go_wp2_with fail
  refine (rtmay x.dead _ _ TM.out).mono ?_
  rintro e w1 ⟨rfl, rfl⟩
  go_wp2_with fail
  go_ret
  exact ⟨rfl, (Below.refl _ _).alloc (Nat.le_refl _) _⟩
section
variable {w0 w w' : World} {S0 S : Nat → Prop} {N L : List Res} {q : Nat} {s s' : OSt}
theorem rfind_c {A : Option Addr} {n c r : Nat} {l : List Wt} {id z : Int} (w : World) (h0 : w.cell? ⟨r, 0, none⟩ = some (.slice A n c)) (hl : Lis w 32 3 (.slice A n c) n (ovs l)) (hn : n ≤ 1000) (hz : FindW l id z) :
    Calls Try.prog 26 #[.pointer (some ⟨r, 0, none⟩), .int .i64 id] w fun e w' => e = .returned (.int .i64 z) ∧ w = w' := by
  have HLL := Lib.hid (lis_len hl)
  have HL := Lib.hid hl
  have HZ := Lib.hid hz
  clear hl hz
  go_enter Try.func26, Try.ntmps26
  go_wp2_with fail
  go_loopw [5] (fun i wr => ∃ k : Nat, k ≤ n ∧ i = .int .i64 k ∧ (∀ (j : Nat) y, j < k → l[j]? = some y → y.id ≠ id) ∧ wr = w) (fun i _ => n - (intOf i).toNat)
  case atStart => exact ⟨0, by omega, rfl, fun j y h => by omega, rfl⟩
  case round =>
  obtain ⟨k, hk, rfl, hno, rfl⟩ := hrel
  have NO := Lib.hid hno
  clear hno
  by_cases hkn : k < n
  · obtain ⟨x, hx⟩ : ∃ x, l[k]? = some x := ⟨_, List.getElem?_eq_getElem (by rw [HLL.out]; exact hkn)⟩
    obtain ⟨b, off, rfl, _, e0, e1, e2⟩ := want_at HL.out hx
    have HX := Lib.hid hx
    have t0 : decide ((k : Int) < (n : Int)) = true := decide_eq_true (by omega)
    have t0' : decide (k < n) = true := decide_eq_true hkn
    clear hx
    by_cases he : x.id = id
    · subst he
      have z1 : (x.id == x.id) = true := by simp
      have HK := Lib.hid (show z = (k : Int) from by
        rcases HZ.out with ⟨_, h⟩ | ⟨i, y, h, h1, h2, h3⟩
        · exact absurd rfl (h x (List.mem_of_getElem? HX.out))
        · rcases Nat.lt_trichotomy i k with hlt | heq | hlt
          · exact absurd h2 (NO.out i y hlt h1)
          · rw [h, heq]
          · exact absurd rfl (h3 k x hlt HX.out))
      go_wp2_with fail
      go_ret
      exact ⟨by rw [HK.out]; rfl, rfl⟩
    · have z1 : (x.id == id) = false := beq_eq_false_iff_ne.2 he
      have NO' := Lib.hid (show ∀ (j : Nat) y, j < k + 1 → l[j]? = some y → y.id ≠ id from fun j y hj hy => by
        rcases Nat.lt_or_ge j k with h | h
        · exact NO.out j y h hy
        · obtain rfl : j = k := by omega
          rw [HX.out] at hy; injection hy with hy; subst hy; exact he)
      clear he
      go_wp2_with fail
      go_roundw
      case rel => exact ⟨k + 1, by omega, by go_num, NO'.out, trivial⟩
      case measure => simp [intOf]; omega
  · have t0 : decide ((k : Int) < (n : Int)) = false := decide_eq_false (by omega)
    have t0' : decide (k < n) = false := decide_eq_false hkn
    have HK := Lib.hid (show z = -1 from by
      rcases HZ.out with ⟨h, _⟩ | ⟨i, y, h, h1, h2, h3⟩
      · exact h
      · have := (List.getElem?_eq_some_iff.1 h1).1
        rw [HLL.out] at this
        exact absurd h2 (NO.out i y (by omega) h1))
    go_wp2_with fail
    go_ret
    exact ⟨by rw [HK.out]; rfl, rfl⟩
theorem rplace_c (h : RQR q s w S) (hs : s.ok) {id z : Int} (hz : FindW s.l id z) :
    Calls Try.prog 26 #[.pointer (some ⟨q, 0, none⟩), .int .i64 id] w fun e w' => e = .returned (.int .i64 z) ∧ Below w.heap.size w w' := by
  obtain ⟨A, c, hh⟩ := h
  have s0 : St w S w (RQL q A c s) := St.start hh
  refine (rfind_c w (s0.blk 0 rfl).three.1 (s0.lis 1 rfl) (by have := hs.len; omega) hz).mono ?_
  rintro e w1 ⟨rfl, rfl⟩
  exact ⟨rfl, Below.refl _ _⟩
theorem rAdd_c (h : RQR q s w S) (hs : s.ok) {x : Wt} (hx : 0 ≤ x.dead) {f : Int} (hP : AddP s x f s') :
    Calls Try.prog 12 #[.pointer (some ⟨q, 0, none⟩), x.v] w fun e w' => e = .returned (.int .i64 f) ∧ ∃ S', RQR q s' w' S' ∧ Did S S' w w' := by
  obtain ⟨A, c, hh⟩ := h
  have s0 : St w S w (RQL q A c s) := St.start hh
  have s1 : St w S (w.alloc (.cells #[.int .i64 x.id, .int .u64 x.dead, .int .i64 x.track] 32)) (RQL q A c s ++ [BlkR w.heap.size 32 #[.int .i64 x.id, .int .u64 x.dead, .int .i64 x.track]]) := s0.box _ _
  obtain ⟨e0, e1, e2⟩ := (s1.blk 2 rfl).three
  have MC := Lib.hid (fun b hb => looks (rMay_c x (w.alloc (.cells #[.int .i64 x.id, .int .u64 x.dead, .int .i64 x.track] 32)) hx b hb) s1)
  have PL' := Lib.hid (fun (w1 : World) (K : St w S w1 (RQL q A c s ++ [BlkR w.heap.size 32 #[.int .i64 x.id, .int .u64 x.dead, .int .i64 x.track]])) (z : Int) (hz : FindW s.l x.id z) => by
    obtain ⟨T, hT⟩ : ∃ T, Star (RQL q A c s) w1 T := (K.take 2).imp fun T h => h.1
    exact looks (rplace_c ⟨A, c, hT⟩ hs hz) K)
  have HS := Lib.hid hs
  obtain ⟨z, hz⟩ := findW_ex s.l x.id
  have HZ := Lib.hid hz
  have hlen := hs.len
  clear s0 s1 hh hs hx hz
  unfold Wt.v at *
  rcases hP with ⟨hm, rfl, rfl⟩ | ⟨hm, hex, rfl, rfl⟩ | ⟨hm, hno, hfull, rfl, rfl⟩ | ⟨hm, hno, hroom, rfl, rfl⟩
  · have M1 := Lib.hid (MC.out false (decide_eq_false hm).symm)
    clear hm MC PL'
    go_enter Try.func12, Try.ntmps12
    go_wp2_with fail
    refine M1.out.mono ?_
    rintro e w1 ⟨rfl, s2⟩
    have S2 := Lib.hid (s2.take 2)
    clear M1 s2
    go_wp2_with fail
    go_ret
    exact ⟨rfl, S2.out.fin fun S' h => ⟨A, c, h⟩⟩
  · have M1 := Lib.hid (MC.out true (decide_eq_true hm).symm)
    obtain ⟨i, rfl⟩ : ∃ i : Nat, z = (i : Int) := by
      rcases HZ.out with ⟨_, h⟩ | ⟨i, _, h, _⟩
      · obtain ⟨y, hy, e⟩ := hex; exact absurd e (h y hy)
      · exact ⟨i, h⟩
    have z1 : decide ((0 : Int) ≤ (i : Int)) = true := decide_eq_true (by omega)
    clear hm MC hex
    go_enter Try.func12, Try.ntmps12
    go_wp2_with fail
    refine M1.out.mono ?_
    rintro e w1 ⟨rfl, s2⟩
    obtain ⟨b0, b1, b2⟩ := (s2.blk 2 rfl).three
    have P1 := Lib.hid (PL'.out w1 s2 _ HZ.out)
    clear M1 s2
    go_wp2_with fail
    refine P1.out.mono ?_
    rintro e w2 ⟨rfl, s3⟩
    have S3 := Lib.hid (s3.take 2)
    clear P1 s3
    go_wp2_with fail
    go_ret
    exact ⟨rfl, S3.out.fin fun S' h => ⟨A, c, h⟩⟩
  all_goals
    have M1 := Lib.hid (MC.out true (decide_eq_true hm).symm)
    obtain rfl : z = -1 := by
      rcases HZ.out with ⟨h, _⟩ | ⟨i, y, _, h1, h2, _⟩
      · exact h
      · exact absurd h2 (hno y (List.mem_of_getElem? h1))
    clear hm MC hno
  · obtain ⟨n, hn⟩ : ∃ n, s'.l.length = n := ⟨_, rfl⟩
    have HN := Lib.hid hn
    rw [hn] at hfull
    clear hn
    subst hfull
    go_enter Try.func12, Try.ntmps12
    go_wp2_with fail
    refine M1.out.mono ?_
    rintro e w1 ⟨rfl, s2⟩
    obtain ⟨b0, b1, b2⟩ := (s2.blk 2 rfl).three
    have P1 := Lib.hid (PL'.out w1 s2 _ HZ.out)
    clear M1 s2
    go_wp2_with fail
    refine P1.out.mono ?_
    rintro e w2 ⟨rfl, s3⟩
    have q0 : w2.cell? ⟨q, 0, none⟩ = some (.slice A 64 c) := by rw [← HN.out]; exact (s3.blk 0 rfl).three.1
    have S3 := Lib.hid (s3.take 2)
    clear P1 s3
    go_wp2_with fail
    go_ret
    exact ⟨rfl, S3.out.fin fun S' h => ⟨A, c, h⟩⟩
  · obtain ⟨n, hn⟩ : ∃ n, s.l.length = n := ⟨_, rfl⟩
    have HN := Lib.hid hn
    rw [hn] at hroom hlen
    clear hn
    have z2 : decide ((64 : Int) ≤ (n : Int)) = false := decide_eq_false (by omega)
    have z2' : decide (64 ≤ n) = false := decide_eq_false (by omega)
    obtain ⟨iI, hiI, hzI, hsI, hbI⟩ := info3o Try.infoWant
    go_enter Try.func12, Try.ntmps12
    go_wp2_with fail
    refine M1.out.mono ?_
    rintro e w1 ⟨rfl, s2⟩
    obtain ⟨b0, b1, b2⟩ := (s2.blk 2 rfl).three
    have P1 := Lib.hid (PL'.out w1 s2 _ HZ.out)
    clear M1 s2
    go_wp2_with fail
    refine P1.out.mono ?_
    rintro e w2 ⟨rfl, s3⟩
    have q0 : w2.cell? ⟨q, 0, none⟩ = some (.slice A n c) := by rw [← HN.out]; exact (s3.blk 0 rfl).three.1
    obtain ⟨d0, d1, d2⟩ := (s3.blk 2 rfl).three
    have s3' : St w S w2 [BlkR q 29 #[.slice A n c, .int .i64 s.head, .bool (!s.up)], LisR 32 3 (.slice A n c) n (ovs s.l)] := by rw [← HN.out]; exact s3.take 2
    have s4 := (s3'.alloc (.cells #[.int .i64 x.id, .int .u64 x.dead, .int .i64 x.track] 32)).drew
    have q1 := (s4.blk 0 rfl).three.1
    have r0 := cell_alloc d0 (.cells #[.int .i64 x.id, .int .u64 x.dead, .int .i64 x.track] 32)
    have r1 := cell_alloc d1 (.cells #[.int .i64 x.id, .int .u64 x.dead, .int .i64 x.track] 32)
    have r2 := cell_alloc d2 (.cells #[.int .i64 x.id, .int .u64 x.dead, .int .i64 x.track] 32)
    have RB := Lib.hid (show Rds ((w2.alloc (.cells #[.int .i64 x.id, .int .u64 x.dead, .int .i64 x.track] 32)).drew) (some ⟨w2.heap.size, 0, none⟩) 1 3 (ovs [x]) from by
      refine ⟨rfl, Or.inr ⟨_, _, rfl, fun j u hu => ?_⟩⟩
      rw [Nat.zero_add]
      refine ((Blk.new w2 32 #[.int .i64 x.id, .int .u64 x.dead, .int .i64 x.track]).cell j).trans ?_
      simpa [ovs] using hu)
    have hl4 := s4.lis 1 rfl
    have HL4 := Lib.hid hl4
    have S4 := Lib.hid s4
    have hcap : n ≤ c ∧ c ≤ maxLen := by
      obtain ⟨A', c', hv, h1, h2⟩ := hl4.shape
      injection hv with _ _ hv
      subst hv; exact ⟨h1, h2⟩
    unfold maxLen at hcap
    clear P1 s3 s3' s4 hl4 PL'
    go_wp2_with fail
    go_region_law (first
      | (refine step_lis (by rfl) _ _ _ (by rfl) 32 iI (.agg #[.int .i64 0, .int .u64 0, .int .i64 0]) 3 24 Try.underlying27 hiI hzI hsI hbI (by rfl) (by omega) (.slice A n c) n (ovs s.l) (by rfl) HL4.out _ 1 1 (ovs [x]) (by rfl) RB.out (ovs_one _) (by unfold maxLen; omega) (by omega) ?_; intro B cB w5 hl hg hat; have t5 := S4.out.lis_put 1 rfl hl hg hat; have m1 := (t5.blk 0 rfl).three.1; have g1 := (t5.blk 0 rfl).frozen 0; have T6 := Lib.hid (t5.set_ 0 rfl 0 (.slice B (n + 1) cB)); clear hl hg hat t5))
    all_goals
      go_wp2_with fail
      go_ret
      refine ⟨rfl, T6.out.fin fun S' h => ⟨B, cB, ?_⟩⟩
      show Star [_, _] _ _
      rw [List.length_append, HN.out, ovs_app]
      exact h
theorem rAdd_o (H : St w0 S0 w L) (i : Nat) (hi : L[i]? = some (RQR q s)) (hs : s.ok) {x : Wt} (hx : 0 ≤ x.dead) {f : Int} (hP : AddP s x f s') :
    Calls Try.prog 12 #[.pointer (some ⟨q, 0, none⟩), .agg #[.int .i64 x.id, .int .u64 x.dead, .int .i64 x.track]] w fun e w' => e = .returned (.int .i64 f) ∧ St w0 S0 w' (L.set i (RQR q s')) :=
  St.call (fun w S h => rAdd_c h hs hx hP) (RQR.ok _ _) H i hi
theorem rnew (H : St w0 S0 w L) : St w0 S0 (w.alloc (.cells #[.slice none 0 0, .int .i64 0, .bool false] 29)) (L ++ [RQR w.heap.size OSt.new]) := by
  have t := (H.box 29 #[.slice none 0 0, .int .i64 0, .bool false]).lis_nil 32 3
  rw [List.append_assoc] at t
  exact t.fold (RQR.ok _ _) fun S h => ⟨none, 0, h⟩
end
end Go.Proofs.Ytmikjbhhnndncaa
