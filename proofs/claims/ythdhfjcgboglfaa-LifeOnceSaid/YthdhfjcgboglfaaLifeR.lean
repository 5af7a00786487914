/- Layer 19: the time of a book goes on. -/
import Derived.Test.YthdhfjcgboglfaaLifeQ
namespace Go.Proofs.Ythdhfjcgboglfaa
open Go.RowKit
set_option linter.unusedVariables false
set_option maxRecDepth 100000
set_option maxHeartbeats 4000000
section
variable {w0 w w' : World} {S0 : Nat → Prop} {L X : List Res} {b cw mb cap n c : Nat} {A T : Option Addr} {s : Bk} {u : Int}
theorem lGo_no (H : St w0 S0 w (BookL b cw mb A cap s)) (hu : 0 ≤ u) (hg : goA s.now u ≠ 0) : Calls Try.prog 17 #[.pointer (some ⟨b, 0, none⟩), .int .u64 u] w fun e w' => e = .returned (.tuple #[.slice none 0 0, .int .i64 (goA s.now u)]) ∧ St w0 S0 w' (BookL b cw mb A cap s) := by
  have c1 := H.arr_cell 0 rfl (k := 1) (by omega)
  unfold bkV at c1
  rw [if_neg (by omega), if_pos rfl] at c1
  have WG := Lib.hid (wGo_o H 1 rfl hu)
  rw [show goN s.now u = s.now by unfold goN; rw [if_neg hg], show goT s.now s.T u = s.T by unfold goT; rw [if_neg hg]] at WG
  obtain ⟨cd, hcd⟩ : ∃ cd, goA s.now u = cd := ⟨_, rfl⟩
  rw [hcd] at WG hg ⊢
  have z : (cd != 0) = true := by simp [hg]
  clear H hcd hg
  go_enter Try.func17, Try.ntmps17
  go_wp2_with fail
  refine WG.out.mono ?_
  rintro e w1 ⟨T', n, c, o, rfl, h1, h2, h3, s1⟩
  have S1 := Lib.hid (show St w0 S0 w1 (BookL b cw mb A cap s) from s1.drop 4 (by simp [BookL]))
  clear WG s1 h1
  go_wp2_with fail
  go_ret2
  exact ⟨rfl, S1.out⟩
theorem fLate_app (l : List Nat) (x : Nat) : fLate (l ++ [x]) = fLate l ++ [⟨(x : Int), 2, 1⟩] := by unfold fLate; simp
theorem lGo_yes (H : St w0 S0 w (BookL b cw mb A cap s)) (ok : s.ok) (hu : 0 ≤ u) (hun : s.un.length ≤ 90000) (hg : goA s.now u = 0) : Calls Try.prog 17 #[.pointer (some ⟨b, 0, none⟩), .int .u64 u] w fun e w' => ∃ l n B d, LateQ s u l ∧ (s.un ++ fLate l).length = n ∧ n ≤ 91000 ∧ e = .returned (.tuple #[.slice B n d, .int .i64 0]) ∧ St w0 S0 w' (BookL b cw mb none 0 (s.go u l) ++ [LisR 50 3 (.slice B n d) n (fvs (s.un ++ fLate l))]) := by
  have c1 := H.arr_cell 0 rfl (k := 1) (by omega)
  unfold bkV at c1
  rw [if_neg (by omega), if_pos rfl] at c1
  have WG := Lib.hid (wGo_o H 1 rfl hu)
  rw [hg] at WG
  rw [show goN s.now u = u by unfold goN; rw [if_pos hg], show goT s.now s.T u = aft s.T u by unfold goT; rw [if_pos hg]] at WG
  have HG := Lib.hid (show ∀ o, GoP s.now s.T u o → OffP s.T u o from fun o h => by unfold GoP at h; rw [if_pos hg] at h; exact h)
  have HOK := Lib.hid ok
  clear H hg ok
  go_enter Try.func17, Try.ntmps17
  go_wp2_with fail
  refine WG.out.mono ?_
  rintro e w1 ⟨T', n, c, o, rfl, h1, h2, h3, s1⟩
  have hoff := HG.out o h1
  have S1 := Lib.hid (show St w0 S0 w1 (BookG b cw mb A cap s u (aft s.T u) ++ [LisR 3 1 (.slice T' n c) n (iv o)]) from s1)
  have LC := Lib.hid (late_c S1.out HOK.out (i := 0) rfl h2 h3 (fun t ht => by
    obtain ⟨a, ha, _⟩ := (hoff.mem t).1 ht
    obtain ⟨k, rfl, hk6, x, hx, _⟩ := T_some ha
    exact ⟨by omega, by omega, by rw [Int.toNat_natCast, hx]; simp⟩))
  have HOFF := Lib.hid hoff
  clear WG s1 h1 HG S1 hoff c1
  go_wp2_with fail
  refine LC.out.mono ?_
  rintro e w2 ⟨B, d, q, l, rfl, hl, s2⟩
  have hlen : l.length = n := by rw [hl.1.length_eq, List.length_map, h2]
  have HQ := Lib.hid (hl.q HOK.out HOFF.out)
  have HLEN := Lib.hid hlen
  have s3 := St.comm (A := [LisR 3 1 (.slice B n d) n (nv l), BlkR q 25 #[.pointer (some ⟨b, 0, none⟩)]]) s2
  have S3 := Lib.hid (show St w0 S0 w2 (BookG b cw mb A cap { s with op := opJ s.op (l.take 0), un := s.un ++ fLate (l.take 0) } u (aft s.T u) ++ [LisR 3 1 (.slice T' n c) n (iv o), LisR 3 1 (.slice B n d) n (nv l), BlkR q 25 #[.pointer (some ⟨b, 0, none⟩)]]) by
    rw [List.take_zero, opJ_nil, show s.un ++ fLate [] = s.un from List.append_nil _]; exact s3)
  clear LC hl s2 s3 hlen h2
  go_wp2_with fail
  go_loopw [27] (fun y wr => ∃ (j : Nat) (A' : Option Addr) (cap' : Nat), j ≤ n ∧ y = .int .i64 (j : Int) ∧ St w0 S0 wr (BookG b cw mb A' cap' { s with op := opJ s.op (l.take j), un := s.un ++ fLate (l.take j) } u (aft s.T u) ++ [LisR 3 1 (.slice T' n c) n (iv o), LisR 3 1 (.slice B n d) n (nv l), BlkR q 25 #[.pointer (some ⟨b, 0, none⟩)]])) (fun y _ => n - (intOf y).toNat)
  case atStart => exact ⟨0, A, cap, by omega, rfl, S3.out⟩
  case round =>
    clear S3
    obtain ⟨j, A', cap', hj, rfl, sr⟩ := hrel
    by_cases hlt : j < n
    · have t1 : decide ((j : Int) < (n : Int)) = true := decide_eq_true (by omega)
      have t1' : decide (j < n) = true := decide_eq_true hlt
      obtain ⟨id, hid⟩ : ∃ id, l[j]? = some id := ⟨_, List.getElem?_eq_getElem (show j < l.length by rw [HLEN.out]; exact hlt)⟩
      obtain ⟨k, dd, hk, hdu⟩ := (HQ.out.mem id).1 (List.mem_of_getElem? hid)
      have hb := HOK.out.bd k _ hk
      dsimp only at hb
      have hc := (sr.lis 5 rfl).reads.2.resolve_left (by omega)
      obtain ⟨g, off, rfl, hc⟩ := hc
      have x0 := hc j _ (nv_get hid)
      unfold encN at x0
      rw [show id % 65536 = id by omega] at x0
      have hni : id ∉ l.take j := fun hm => by
        obtain ⟨i2, hi2⟩ := List.getElem?_of_mem hm
        have hi3 : i2 < j := by
          have := (List.getElem?_eq_some_iff.1 hi2).1
          rw [List.length_take] at this
          omega
        rw [List.getElem?_take_of_lt hi3] at hi2
        exact List.pairwise_iff_getElem.1 HQ.out.nd i2 j (List.getElem?_eq_some_iff.1 hi2).1 (List.getElem?_eq_some_iff.1 hid).1 hi3 ((List.getElem?_eq_some_iff.1 hi2).2.trans (List.getElem?_eq_some_iff.1 hid).2.symm)
      have hj2 : opJ s.op (l.take j) k = some ((id : Int), dd) := opJ_of hk (by show (id : Int).toNat ∉ _; rw [Int.toNat_natCast]; exact hni)
      have OM := lOut_mid sr (HOK.out.U.opJ _) (fun k x hx => by have := HOK.out.bd k x (opJ_some hx).1; exact ⟨this.1, this.2.1⟩) ⟨(id : Int), 2, 1⟩ (k := k) ((HOK.out.U.opJ _).slot hj2) (by
        show (s.un ++ fLate (l.take j)).length ≤ 100000
        rw [List.length_append]; unfold fLate; rw [List.length_map, List.length_take]; omega)
      dsimp only at OM
      rw [opJ_step HOK.out.U (fun k x hx => (HOK.out.bd k x hx).1) hk, List.append_assoc, ← fLate_app,
        show l.take j ++ [id] = l.take (j + 1) by rw [List.take_add_one, hid]; rfl,
        show updT (aft s.T u) (k : Int) none = aft s.T u by
          funext i
          by_cases e : i = (k : Int)
          · subst e
            rw [updT, if_pos rfl]
            unfold aft
            rw [T_of HOK.out hk]
            dsimp only
            rw [if_pos hdu]
          · rw [updT, if_neg e]] at OM
      have OM := Lib.hid OM
      clear hc sr hid hk hdu hb hni hj2
      go_wp2_with fail
      refine OM.out.mono ?_
      rintro e w5 ⟨rfl, A2, cap2, s5⟩
      have S5 := Lib.hid s5
      clear OM s5
      go_wp2_with fail
      go_roundw
      case rel => exact ⟨j + 1, A2, cap2, by omega, by go_num, S5.out⟩
      case measure => simp [intOf]; omega
    · obtain rfl : j = n := by omega
      have t1 : decide ((j : Int) < (j : Int)) = false := decide_eq_false (by omega)
      have t1' : decide (j < j) = false := decide_eq_false hlt
      rw [List.take_of_length_le (by rw [HLEN.out]; exact Nat.le_refl j)] at sr
      obtain ⟨m, hm⟩ : ∃ m, (s.un ++ fLate l).length = m := ⟨_, rfl⟩
      have hm9 : m ≤ 91000 := by rw [← hm, List.length_append]; unfold fLate; rw [List.length_map, HLEN.out]; omega
      have c1 := sr.arr_cell 0 rfl (k := 67) (by omega)
      have c2 := sr.arr_frozen 0 rfl 67
      unfold bkV at c1
      rw [if_neg (by omega), if_neg (by omega), if_neg (by omega), if_neg (by omega)] at c1
      dsimp only at c1
      rw [hm] at c1
      have s6 := sr.arr_set 0 rfl (k := 67) (by omega) (.slice none 0 0)
      have S6 := Lib.hid s6
      have HM := Lib.hid hm
      clear sr s6 hm
      go_wp2_with fail
      go_ret2
      refine ⟨l, m, A', cap', HQ.out, HM.out, hm9, rfl, ?_⟩
      have s7 := S6.out.arr_like (V' := bkV (s.go u l) cw mb none 0) 0 rfl (fun j hj => by
        show bkV (s.go u l) cw mb none 0 j = if j = 67 then .slice none 0 0 else bkV _ cw mb A' cap' j
        by_cases e : j = 67
        · subst e; rw [if_pos rfl]; rfl
        · rw [if_neg e]
          unfold bkV
          by_cases e0 : j = 0
          · rw [if_pos e0, if_pos e0]; rfl
          by_cases e1 : j = 1
          · rw [if_neg e0, if_neg e0, if_pos e1, if_pos e1]
          by_cases e2 : j = 2
          · rw [if_neg e0, if_neg e0, if_neg e1, if_neg e1, if_pos e2, if_pos e2]
          rw [if_neg e0, if_neg e0, if_neg e1, if_neg e1, if_neg e2, if_neg e2, if_pos (show j < 67 by omega), if_pos (show j < 67 by omega)]
          rfl)
      have s8 : St w0 S0 _ ([ArrR b 65 68 (bkV (s.go u l) cw mb none 0), WheelR cw u (aft s.T u), MapZR Try.prog 3 mb (cntO (opJ s.op l)) (mapO (opJ s.op l))] ++ [LisR 50 3 (.slice A' (s.un ++ fLate l).length cap') (s.un ++ fLate l).length (fvs (s.un ++ fLate l))]) := ((s7.drop 6 (by simp [BookG])).drop 5 (by simp [BookG])).drop 4 (by simp [BookG])
      have s9 := St.comm (A := [LisR 50 3 (.slice A' (s.un ++ fLate l).length cap') (s.un ++ fLate l).length (fvs (s.un ++ fLate l))]) (s8.comm.lis_nil 50 3)
      rw [HM.out] at s9
      rw [← HQ.out.T HOK.out] at s9
      exact s9
end
end Go.Proofs.Ythdhfjcgboglfaa
