/- Layer 15: the program's queue: Change, First, All. -/
import Derived.Test.YtdemhhmceiaohaaReadyF
namespace Go.Proofs.Ytdemhhmceiaohaa
open Go.RowKit
set_option linter.unusedVariables false
set_option maxRecDepth 100000
set_option maxHeartbeats 1000000
section
variable {w0 w w' : World} {S0 S : Nat → Prop} {L : List Res} {q i : Nat} {v : Nat → Value} {s s' : QS}
theorem Come_o {m : Nat} (H : St w0 S0 w L) (hi : L[i]? = some (QueR q s)) (hs : s.ok m) (id p f : Int) (hP : ComeP s id p f s') :
    Calls Try.prog 29 #[.pointer (some ⟨q, 0, none⟩), .int .i64 id, .int .i64 p] w fun e w' => e = .returned (.int .i64 f) ∧ St w0 S0 w' (L.set i (QueR q s')) :=
  St.call (fun w S h => Come_c h hs id p f hP) (QueR.ok _ _) H i hi
theorem Go_o {m : Nat} (H : St w0 S0 w L) (hi : L[i]? = some (QueR q s)) (hs : s.ok m) (id f : Int) (hP : GoP s id f s') :
    Calls Try.prog 73 #[.pointer (some ⟨q, 0, none⟩), .int .i64 id] w fun e w' => e = .returned (.int .i64 f) ∧ St w0 S0 w' (L.set i (QueR q s')) :=
  St.call (fun w S h => Go_c h hs id f hP) (QueR.ok _ _) H i hi
theorem flat_nil {f : Nat → List Nat} : ∀ {k : Nat}, (∀ r, r < k → f r = []) → flat f k = []
  | 0, _ => rfl
  | k + 1, h => by simp only [flat]; rw [flat_nil fun r hr => h r (by omega), h k (by omega)]; rfl
theorem First_o {m : Nat} (H : St w0 S0 w L) (hi : L[i]? = some (QueR q s)) (hs : s.ok m) (a p f : Int) (hP : FirstP s a p f) :
    Calls Try.prog 75 #[.pointer (some ⟨q, 0, none⟩)] w fun e w' => e = .returned (.tuple #[.int .i64 a, .int .i64 p, .int .i64 f]) ∧ St w0 S0 w' L := by
  obtain ⟨S, v, hr⟩ := H.get i hi
  have s0 := St.start hr
  have HP := Lib.hid hP
  have HS := Lib.hid hs
  have S1 := Lib.hid s0
  have HH := Lib.hid H
  have hmx := hs.mx
  clear hP hs s0 hr H
  go_enter Try.func75, Try.ntmps75
  go_wp2_with fail
  go_loopw [7] (fun x wr => ∃ k : Nat, k ≤ 101 ∧ x = .int .i64 (k : Int) ∧ (∀ r, r < k → s.lst r = []) ∧ wr = w) (fun x _ => 101 - (intOf x).toNat)
  case atStart => exact ⟨0, by omega, rfl, fun r hr => by omega, rfl⟩
  case round =>
    obtain ⟨k, hk, rfl, hall, rfl⟩ := hrel
    have HA := Lib.hid hall
    clear hall
    by_cases hlt : k < 101
    · have k0 : (0 : Int) ≤ (k : Int) := by omega
      have k1 : (k : Int) < 101 := by omega
      have t1 : decide ((k : Int) < 101) = true := decide_eq_true k1
      have sh := que_lst S1.out hlt
      obtain ⟨A, c, hv, hn, hc⟩ := sh.shape
      have ce := que_cell S1.out (i := k) (by omega)
      rw [qV_lst hlt, hv] at ce
      rw [hv] at sh
      have hlen := HS.out.lst_len k
      cases hl : s.lst k with
      | nil =>
        rw [hl] at ce
        have ce' : wr.cell? ⟨q, k, none⟩ = some (.slice A 0 c) := ce
        have HL := Lib.hid hl
        clear hl ce sh hv hn hlen
        go_wp2_with fail
        go_roundw
        case rel =>
          refine ⟨k + 1, by omega, by go_num, fun r hr => ?_, by first | rfl | trivial⟩
          by_cases e : r = k
          · rw [e]; exact HL.out
          · exact HA.out r (by omega)
        case measure => simp [intOf]; omega
      | cons y t =>
        obtain ⟨hx1, hx2, hx3⟩ : a = (y : Int) ∧ p = (k : Int) ∧ f = 0 := by
          have e1 : s.all = flat s.lst (k + 1) ++ flatFrom s.lst (k + 1) (100 - k) := all_split s k hlt
          simp only [flat] at e1
          rw [flat_nil HA.out, hl] at e1
          rcases HP.out with ⟨h, _⟩ | ⟨x, t', h, h1, h2, h3⟩
          · rw [h] at e1; simp at e1
          · rw [h] at e1
            simp at e1
            obtain ⟨e1, -⟩ := e1
            subst e1
            exact ⟨h1, h2, h3⟩
        subst hx1 hx2 hx3
        rw [hl] at ce sh hlen
        obtain ⟨g, off, rfl, hcc⟩ := sh.reads.2.resolve_left (by simp)
        have c0 := hcc 0 (.int .i64 (y : Int)) (by simp [ivs])
        rw [Nat.add_zero] at c0
        obtain ⟨n, hn'⟩ : ∃ n, (y :: t).length = n := ⟨_, rfl⟩
        rw [hn'] at ce hlen
        have n1 : 1 ≤ n := by rw [← hn']; simp
        have t2 : decide (0 < (n : Int)) = true := decide_eq_true (by omega)
        have t2' : decide (0 < n) = true := decide_eq_true (by omega)
        have n2 : (0 : Int) < (n : Int) := by omega
        clear hl sh hv hn hcc hn'
        go_wp2_with fail
        refine bodyPost_ret (v := .tuple #[.int .i64 (y : Int), .int .i64 (k : Int), .int .i64 0]) ?_ rfl ⟨rfl, HH.out⟩
        simp [results, go_sem]
    · obtain rfl : k = 101 := by omega
      have t1 : decide (((101 : Nat) : Int) < 101) = false := decide_eq_false (by omega)
      obtain ⟨hx1, hx2, hx3⟩ : a = 0 ∧ p = 0 ∧ f = 5 := by
        have e1 : s.all = [] := flat_nil HA.out
        rcases HP.out with ⟨_, h⟩ | ⟨x, t', h, h1, h2, h3⟩
        · exact h
        · rw [e1] at h; cases h
      subst hx1 hx2 hx3
      go_wp2_with fail
      refine bodyPost_ret (v := .tuple #[.int .i64 0, .int .i64 0, .int .i64 5]) ?_ rfl ⟨rfl, HH.out⟩
      simp [results, go_sem]
def QS.ids (s : QS) : List Nat := s.all.map Prod.fst
theorem flat_le {f : Nat → List Nat} : ∀ {k n : Nat}, k ≤ n → (flat f k).length ≤ (flat f n).length
  | k, 0, h => by obtain rfl : k = 0 := by omega
                  exact Nat.le_refl _
  | k, n + 1, h => by
    by_cases e : k = n + 1
    · rw [e]; exact Nat.le_refl _
    · have := flat_le (f := f) (show k ≤ n by omega)
      simp only [flat, List.length_append]; omega
end
end Go.Proofs.Ytdemhhmceiaohaa
