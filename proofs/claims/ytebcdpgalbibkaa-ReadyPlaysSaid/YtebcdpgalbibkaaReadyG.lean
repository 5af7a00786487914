/- Layer 15: the program's queue: Change, First, All. -/
import Derived.Test.YtebcdpgalbibkaaReadyF
namespace Go.Proofs.Ytebcdpgalbibkaa
open Go.RowKit
set_option linter.unusedVariables false
set_option maxRecDepth 100000
set_option maxHeartbeats 1000000
section
variable {w0 w w' : World} {S0 S : Nat → Prop} {L : List Res} {q i : Nat} {v : Nat → Value} {s s' : QS}
theorem Come_o {m : Nat} (H : St w0 S0 w L) (hi : L[i]? = some (QueR q s)) (hs : s.ok m) (id p f : Int) (hP : ComeP s id p f s') :
    Calls Try.prog 10 #[.pointer (some ⟨q, 0, none⟩), .int .i64 id, .int .i64 p] w fun e w' => e = .returned (.int .i64 f) ∧ St w0 S0 w' (L.set i (QueR q s')) :=
  St.call (fun w S h => Come_c h hs id p f hP) (QueR.ok _ _) H i hi
theorem Go_o {m : Nat} (H : St w0 S0 w L) (hi : L[i]? = some (QueR q s)) (hs : s.ok m) (id f : Int) (hP : GoP s id f s') :
    Calls Try.prog 12 #[.pointer (some ⟨q, 0, none⟩), .int .i64 id] w fun e w' => e = .returned (.int .i64 f) ∧ St w0 S0 w' (L.set i (QueR q s')) :=
  St.call (fun w S h => Go_c h hs id f hP) (QueR.ok _ _) H i hi
theorem Change_c {m : Nat} (h : QueR q s w S) (hs : s.ok m) (id p f : Int) (hP : ChangeP s id p f s') :
    Calls Try.prog 14 #[.pointer (some ⟨q, 0, none⟩), .int .i64 id, .int .i64 p] w fun e w' => e = .returned (.int .i64 f) ∧ ∃ S', QueR q s' w' S' ∧ Did S S' w w' := by
  have hq : St w S w [QueR q s] := St.start (Star.one (QueR.ok _ _) h)
  have HQ := Lib.hid hq
  obtain ⟨v, hr⟩ := h
  have s0 := St.start hr
  have S0' := Lib.hid s0
  have MY := Lib.hid (fun b hb => may_c id p w b hb)
  have HA := Lib.hid (fun b hb => has_c s0 id b hb)
  have HS := Lib.hid hs
  clear hr hs s0 hq
  rcases hP with ⟨h1, rfl, rfl⟩ | ⟨h1, h2, rfl, rfl⟩ | ⟨h1, h2, rfl, rfl⟩ | ⟨h1, ⟨u, h2, h3⟩, rfl, rfl⟩
  · have M2 := Lib.hid (MY.out false (decide_eq_false h1).symm)
    clear h1 MY HA
    go_enter Try.func14, Try.ntmps14
    go_wp2_with fail
    refine M2.out.mono ?_
    rintro e w1 ⟨rfl, rfl⟩
    go_wp2_with fail
    go_ret
    exact ⟨rfl, S0'.out.fin fun S' h => ⟨v, h⟩⟩
  · have M2 := Lib.hid (MY.out true (decide_eq_true h1).symm)
    have H2 := Lib.hid (HA.out false (decide_eq_false h2).symm)
    clear h1 h2 MY HA
    go_enter Try.func14, Try.ntmps14
    go_wp2_with fail
    refine M2.out.mono ?_
    rintro e w1 ⟨rfl, rfl⟩
    go_wp2_with fail
    refine H2.out.mono ?_
    rintro e w1 ⟨rfl, rfl⟩
    go_wp2_with fail
    go_ret
    exact ⟨rfl, S0'.out.fin fun S' h => ⟨v, h⟩⟩
  · have M2 := Lib.hid (MY.out true (decide_eq_true h1).symm)
    have H2 := Lib.hid (HA.out true (decide_eq_true ⟨h1.1, by rw [h2]; rfl⟩).symm)
    obtain ⟨⟨i0, i1⟩, p0, p1⟩ := h1
    obtain ⟨j, rfl⟩ : ∃ j : Nat, (j : Int) = id := ⟨id.toNat, by omega⟩
    obtain ⟨r, rfl⟩ : ∃ r : Nat, (r : Int) = p := ⟨p.toNat, by omega⟩
    rw [Int.toNat_natCast, Int.toNat_natCast] at h2
    have k2 := que_cell S0'.out (i := 101 + j * 2 + 1) (by omega)
    rw [qV_prio, h2] at k2
    have k2' : w.cell? ⟨q, 101 + j * 2 + 1, none⟩ = some (.int .i64 (r : Int)) := k2
    clear h2 k2 MY HA
    go_enter Try.func14, Try.ntmps14
    go_wp2_with fail
    refine M2.out.mono ?_
    rintro e w1 ⟨rfl, rfl⟩
    go_wp2_with fail
    refine H2.out.mono ?_
    rintro e w1 ⟨rfl, rfl⟩
    go_wp2_with fail
    go_ret
    exact ⟨rfl, S0'.out.fin fun S' h => ⟨v, h⟩⟩
  · have M2 := Lib.hid (MY.out true (decide_eq_true h1).symm)
    have H2 := Lib.hid (HA.out true (decide_eq_true ⟨h1.1, by rw [h2]; rfl⟩).symm)
    have GO := Lib.hid (Go_o (i := 0) HQ.out rfl HS.out id 0 (Or.inr ⟨⟨h1.1, by rw [h2]; rfl⟩, rfl, rfl⟩))
    have CO := Lib.hid (fun (W : World) (K : St w S W [QueR q (s.go id.toNat)]) => Come_o (i := 0) K rfl (HS.out.go id.toNat) id p 0 (Or.inr (Or.inr ⟨h1, go_none s id.toNat, rfl, rfl⟩)))
    obtain ⟨⟨i0, i1⟩, p0, p1⟩ := h1
    obtain ⟨j, rfl⟩ : ∃ j : Nat, (j : Int) = id := ⟨id.toNat, by omega⟩
    obtain ⟨r, rfl⟩ : ∃ r : Nat, (r : Int) = p := ⟨p.toNat, by omega⟩
    rw [Int.toNat_natCast] at h2
    rw [Int.toNat_natCast] at h3
    have k2 := que_cell S0'.out (i := 101 + j * 2 + 1) (by omega)
    rw [qV_prio, h2] at k2
    have k2' : w.cell? ⟨q, 101 + j * 2 + 1, none⟩ = some (.int .i64 (u : Int)) := k2
    have z1 : ((u : Int) == (r : Int)) = false := beq_eq_false_iff_ne.2 (by omega)
    have z1' : (u == r) = false := beq_eq_false_iff_ne.2 h3
    clear h2 h3 k2 MY HA
    go_enter Try.func14, Try.ntmps14
    go_wp2_with fail
    refine M2.out.mono ?_
    rintro e w1 ⟨rfl, rfl⟩
    go_wp2_with fail
    refine H2.out.mono ?_
    rintro e w1 ⟨rfl, rfl⟩
    go_wp2_with fail
    refine GO.out.mono ?_
    rintro e w2 ⟨rfl, s2⟩
    have C2 := Lib.hid (CO.out _ s2)
    clear s2 GO CO
    go_wp2_with fail
    refine C2.out.mono ?_
    rintro e w3 ⟨rfl, s3⟩
    go_wp2_with fail
    go_ret
    exact ⟨rfl, s3.fin fun S' h => star_one h⟩
theorem Change_o {m : Nat} (H : St w0 S0 w L) (hi : L[i]? = some (QueR q s)) (hs : s.ok m) (id p f : Int) (hP : ChangeP s id p f s') :
    Calls Try.prog 14 #[.pointer (some ⟨q, 0, none⟩), .int .i64 id, .int .i64 p] w fun e w' => e = .returned (.int .i64 f) ∧ St w0 S0 w' (L.set i (QueR q s')) :=
  St.call (fun w S h => Change_c h hs id p f hP) (QueR.ok _ _) H i hi
theorem flat_nil {f : Nat → List Nat} : ∀ {k : Nat}, (∀ r, r < k → f r = []) → flat f k = []
  | 0, _ => rfl
  | k + 1, h => by simp only [flat]; rw [flat_nil fun r hr => h r (by omega), h k (by omega)]; rfl
theorem First_o {m : Nat} (H : St w0 S0 w L) (hi : L[i]? = some (QueR q s)) (hs : s.ok m) (a p f : Int) (hP : FirstP s a p f) :
    Calls Try.prog 16 #[.pointer (some ⟨q, 0, none⟩)] w fun e w' => e = .returned (.tuple #[.int .i64 a, .int .i64 p, .int .i64 f]) ∧ St w0 S0 w' L := by
  obtain ⟨S, v, hr⟩ := H.get i hi
  have s0 := St.start hr
  have HP := Lib.hid hP
  have HS := Lib.hid hs
  have S1 := Lib.hid s0
  have HH := Lib.hid H
  have hmx := hs.mx
  clear hP hs s0 hr H
  go_enter Try.func16, Try.ntmps16
  go_wp2_with fail
  go_loopw [7] (fun x wr => ∃ k : Nat, k ≤ 101 ∧ x = .int .i64 (k : Int) ∧ (∀ r, r < k → s.lst r = []) ∧ wr = w) (fun x _ => 101 - (intOf x).toNat)
  case atStart => exact ⟨0, by omega, rfl, fun r hr => by omega, rfl⟩
  case round =>
    obtain ⟨k, hk, rfl, hall, rfl⟩ := hrel
    have HA := Lib.hid hall
    clear hall
    by_cases hlt : k < 101
    · have k0 : (0 : Int) ≤ (k : Int) := by omega
      have k1 : (k : Int) < 101 := by omega
      have t1 : decide ((k : Int) < 101) = true := decide_eq_true k1
      have sh := que_lst S1.out hlt
      obtain ⟨A, c, hv, hn, hc⟩ := sh.shape
      have ce := que_cell S1.out (i := k) (by omega)
      rw [qV_lst hlt, hv] at ce
      rw [hv] at sh
      have hlen := HS.out.lst_len k
      cases hl : s.lst k with
      | nil =>
        rw [hl] at ce
        have ce' : wr.cell? ⟨q, k, none⟩ = some (.slice A 0 c) := ce
        have HL := Lib.hid hl
        clear hl ce sh hv hn hlen
        go_wp2_with fail
        go_roundw
        case rel =>
          refine ⟨k + 1, by omega, by go_num, fun r hr => ?_, by first | rfl | trivial⟩
          by_cases e : r = k
          · rw [e]; exact HL.out
          · exact HA.out r (by omega)
        case measure => simp [intOf]; omega
      | cons y t =>
        obtain ⟨hx1, hx2, hx3⟩ : a = (y : Int) ∧ p = (k : Int) ∧ f = 0 := by
          have e1 : s.all = flat s.lst (k + 1) ++ flatFrom s.lst (k + 1) (100 - k) := all_split s k hlt
          simp only [flat] at e1
          rw [flat_nil HA.out, hl] at e1
          rcases HP.out with ⟨h, _⟩ | ⟨x, t', h, h1, h2, h3⟩
          · rw [h] at e1; simp at e1
          · rw [h] at e1
            simp at e1
            obtain ⟨e1, -⟩ := e1
            subst e1
            exact ⟨h1, h2, h3⟩
        subst hx1 hx2 hx3
        rw [hl] at ce sh hlen
        obtain ⟨g, off, rfl, hcc⟩ := sh.reads.2.resolve_left (by simp)
        have c0 := hcc 0 (.int .i64 (y : Int)) (by simp [ivs])
        rw [Nat.add_zero] at c0
        obtain ⟨n, hn'⟩ : ∃ n, (y :: t).length = n := ⟨_, rfl⟩
        rw [hn'] at ce hlen
        have n1 : 1 ≤ n := by rw [← hn']; simp
        have t2 : decide (0 < (n : Int)) = true := decide_eq_true (by omega)
        have t2' : decide (0 < n) = true := decide_eq_true (by omega)
        have n2 : (0 : Int) < (n : Int) := by omega
        clear hl sh hv hn hcc hn'
        go_wp2_with fail
        refine bodyPost_ret (v := .tuple #[.int .i64 (y : Int), .int .i64 (k : Int), .int .i64 0]) ?_ rfl ⟨rfl, HH.out⟩
        simp [results, go_sem]
    · obtain rfl : k = 101 := by omega
      have t1 : decide (((101 : Nat) : Int) < 101) = false := decide_eq_false (by omega)
      obtain ⟨hx1, hx2, hx3⟩ : a = 0 ∧ p = 0 ∧ f = 5 := by
        have e1 : s.all = [] := flat_nil HA.out
        rcases HP.out with ⟨_, h⟩ | ⟨x, t', h, h1, h2, h3⟩
        · exact h
        · rw [e1] at h; cases h
      subst hx1 hx2 hx3
      go_wp2_with fail
      refine bodyPost_ret (v := .tuple #[.int .i64 0, .int .i64 0, .int .i64 5]) ?_ rfl ⟨rfl, HH.out⟩
      simp [results, go_sem]
def QS.ids (s : QS) : List Nat := s.all.map Prod.fst
theorem flat_le {f : Nat → List Nat} : ∀ {k n : Nat}, k ≤ n → (flat f k).length ≤ (flat f n).length
  | k, 0, h => by obtain rfl : k = 0 := by omega
                  exact Nat.le_refl _
  | k, n + 1, h => by
    by_cases e : k = n + 1
    · rw [e]; exact Nat.le_refl _
    · have := flat_le (f := f) (show k ≤ n by omega)
      simp only [flat, List.length_append]; omega
theorem All_o {m : Nat} (H : St w0 S0 w L) (hi : L[i]? = some (QueR q s)) (hs : s.ok m) :
    Calls Try.prog 19 #[.pointer (some ⟨q, 0, none⟩)] w fun e w' => ∃ B c, e = .returned (.slice B s.all.length c) ∧ St w0 S0 w' (L ++ [LisR 3 1 (.slice B s.all.length c) s.all.length (ivs s.ids)]) := by
  obtain ⟨S, v, hr⟩ := H.get i hi
  obtain ⟨iI, hiI, hzI, hsI, hbI⟩ := info3 Try.infoInt
  have S1 := Lib.hid (fun (W : World) (hb : Below w.heap.size w W) => (St.start hr).stay hb)
  have HS := Lib.hid hs
  have HH := Lib.hid H
  have hmx := hs.mx
  have hall := hs.len
  have sN : St w None w [LisR 3 1 (.slice none 0 0) 0 []] := (St.begin w).lis_nil 3 1
  have SN := Lib.hid sN
  clear hs hr H sN
  go_enter Try.func19, Try.ntmps19
  go_wp2_with fail
  go_loopw [3, 5] (fun x3 x wr => ∃ (k : Nat) (B : Option Addr) (c : Nat), k ≤ 101 ∧ x = .int .i64 (k : Int) ∧ x3 = .slice B (flat s.lst k).length c ∧ St w None wr [LisR 3 1 (.slice B (flat s.lst k).length c) (flat s.lst k).length (ivs ((flat s.lst k).map Prod.fst))]) (fun _ x _ => 101 - (intOf x).toNat)
  case atStart => exact ⟨0, none, 0, by omega, rfl, rfl, SN.out⟩
  case round =>
    clear SN
    obtain ⟨k, B, c, hk, rfl, rfl, sr⟩ := hrel
    by_cases hlt : k < 101
    · have k0 : (0 : Int) ≤ (k : Int) := by omega
      have k1 : (k : Int) < 101 := by omega
      have t1 : decide ((k : Int) < 101) = true := decide_eq_true k1
      have sq := S1.out wr sr.below
      have sh := que_lst sq hlt
      obtain ⟨A, cA, hv, hn, hc⟩ := sh.shape
      have ce := que_cell sq (i := k) (by omega)
      rw [qV_lst hlt, hv] at ce
      rw [hv] at sh
      have hle := flat_le (f := s.lst) (show k + 1 ≤ 101 by omega)
      have hfl : (flat s.lst (k + 1)).length = (flat s.lst k).length + (s.lst k).length := by simp [flat]
      have hal : (flat s.lst 101).length ≤ m := hall
      have HX := Lib.hid (show ivs ((flat s.lst k).map Prod.fst) ++ ivs (s.lst k) = ivs ((flat s.lst (k + 1)).map Prod.fst) by
        rw [← ivs_app]
        simp only [flat, List.map_append, List.map_map]
        congr 2
        exact (List.map_id' (s.lst k)).symm)
      obtain ⟨n, hn'⟩ : ∃ n, (s.lst k).length = n := ⟨_, rfl⟩
      obtain ⟨u, hu⟩ : ∃ u, (flat s.lst k).length = u := ⟨_, rfl⟩
      rw [hn'] at ce hfl sh
      rw [hu] at hfl sr
      rw [hu]
      have hl3 := sr.lis 0 rfl
      have hr3 := sh.reads
      have SR := Lib.hid sr
      have HFL := Lib.hid hfl
      have bd : u + n ≤ 1000 := by omega
      clear hle hfl hal sq sh hv hn hu hn' sr
      go_wp2_with (at_builtin; refine wpList_lis rfl (.tmp 8) (.tmp 14) 38 rfl 3 iI (.int .i64 0) 1 8 Try.underlying38 hiI hzI hsI hbI rfl (by decide) _ _ _ rfl hl3 A n cA (ivs (s.lst k)) rfl hr3 (ivs_one _) (by unfold maxLen; omega) (by omega) ?_; intro B4 cap4 w4 hl4 hg4 hat4; have s4 := SR.out.lis_put 0 rfl hl4 hg4 hat4; rw [HX.out] at s4; have S4 := Lib.hid s4; clear hl4 hg4 hat4 s4 hl3 hr3)
      go_wp2_with fail
      go_roundw
      case rel => exact ⟨k + 1, B4, cap4, by omega, by go_num, by rw [HFL.out], by rw [HFL.out]; exact S4.out⟩
      case measure => simp [intOf]; omega
    · obtain rfl : k = 101 := by omega
      have t1 : decide (((101 : Nat) : Int) < 101) = false := decide_eq_false (by omega)
      have SR := Lib.hid (HH.out.join sr)
      clear sr
      go_wp2_with fail
      go_ret
      exact ⟨B, c, rfl, SR.out⟩
end
end Go.Proofs.Ytebcdpgalbibkaa
