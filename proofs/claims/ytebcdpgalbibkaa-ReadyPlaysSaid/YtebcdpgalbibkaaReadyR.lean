/- Layer 15: the document's own queue in memory: members as they stand; find, First, All. -/
import Derived.Test.YtebcdpgalbibkaaReadyB
import Derived.Deep.RegionLaw
import Derived.Deep.QuietTactic
import Derived.BigQuiet
namespace Go.Proofs.Ytebcdpgalbibkaa
open Go.RowKit
set_option linter.unusedVariables false
set_option maxRecDepth 100000
set_option maxHeartbeats 1000000
def mvs : List (Nat × Nat) → List Value
  | [] => []
  | x :: t => .int .i64 (x.1 : Nat) :: .int .i64 (x.2 : Nat) :: mvs t
theorem mvs_len : ∀ l, (mvs l).length = l.length * 2
  | [] => rfl
  | x :: t => by simp only [mvs, List.length_cons, mvs_len t]; omega
theorem mvs_app : ∀ l m, mvs (l ++ m) = mvs l ++ mvs m
  | [], m => rfl
  | x :: t, m => by simp only [mvs, List.cons_append, mvs_app t m]
theorem mvs_at : ∀ {l : List (Nat × Nat)} {i : Nat} {x : Nat × Nat}, l[i]? = some x → (mvs l)[i * 2]? = some (.int .i64 (x.1 : Nat)) ∧ (mvs l)[i * 2 + 1]? = some (.int .i64 (x.2 : Nat))
  | [], i, x, h => by simp at h
  | a :: t, 0, x, h => by
    obtain rfl : a = x := by simpa using h
    exact ⟨rfl, rfl⟩
  | a :: t, i + 1, x, h => by
    have h : t[i]? = some x := by simpa using h
    have := mvs_at h
    rw [show (i + 1) * 2 = i * 2 + 1 + 1 by omega]
    exact this
theorem mvs_take : ∀ (l : List (Nat × Nat)) (i : Nat), (mvs l).take (i * 2) = mvs (l.take i)
  | [], i => by simp [mvs]
  | a :: t, 0 => by simp [mvs]
  | a :: t, i + 1 => by
    rw [show (i + 1) * 2 = i * 2 + 1 + 1 by omega]
    simp only [mvs, List.take_succ_cons, mvs_take t i]
theorem mvs_drop : ∀ (l : List (Nat × Nat)) (i : Nat), (mvs l).drop (i * 2) = mvs (l.drop i)
  | [], i => by simp [mvs]
  | a :: t, 0 => by simp [mvs]
  | a :: t, i + 1 => by
    rw [show (i + 1) * 2 = i * 2 + 1 + 1 by omega]
    simp only [mvs, List.drop_succ_cons, mvs_drop t i]
theorem mvs_one : ∀ l, ∀ u ∈ mvs l, u.oneCell' = true
  | [], u, h => by simp [mvs] at h
  | x :: t, u, h => by
    simp only [mvs, List.mem_cons] at h
    rcases h with rfl | rfl | h
    · rfl
    · rfl
    · exact mvs_one t u h
def RQL (r : Nat) (A : Option Addr) (c : Nat) (l : List (Nat × Nat)) : List Res := [BlkR r 29 #[.slice A l.length c], LisR 56 2 (.slice A l.length c) l.length (mvs l)]
def RQR (r : Nat) (l : List (Nat × Nat)) : Res := fun w S => ∃ A c, Star (RQL r A c l) w S
theorem RQR.ok (r : Nat) (l : List (Nat × Nat)) : Ok (RQR r l) :=
  ⟨fun ⟨A, c, h⟩ b hb => (Star.ok _).lt h b hb, fun ⟨A, c, h⟩ hk => ⟨A, c, (Star.ok _).frame h hk⟩⟩
/-- Where a number stands. -/
def FindP (l : List (Nat × Nat)) (id z : Int) : Prop := (z = -1 ∧ ∀ x, x ∈ l → (x.1 : Int) ≠ id) ∨ ∃ (i : Nat) (x : Nat × Nat), z = (i : Int) ∧ l[i]? = some x ∧ (x.1 : Int) = id
section
variable {w0 w w' : World} {S0 S : Nat → Prop} {L : List Res} {r : Nat} {l : List (Nat × Nat)}
theorem mem_cell {A : Option Addr} {c i : Nat} {x : Nat × Nat} (h : Lis w 56 2 (.slice A l.length c) l.length (mvs l)) (hx : l[i]? = some x) : ∃ b off, A = some ⟨b, off, none⟩ ∧ w.cell? ⟨b, off + i * 2, none⟩ = some (.int .i64 (x.1 : Nat)) ∧ w.cell? ⟨b, off + i * 2 + 1, none⟩ = some (.int .i64 (x.2 : Nat)) := by
  have hi := (List.getElem?_eq_some_iff.1 hx).1
  rcases h.reads.2 with h0 | ⟨b, off, rfl, hc⟩
  · omega
  · have := mvs_at hx
    exact ⟨b, off, rfl, hc _ _ this.1, by rw [Nat.add_assoc]; exact hc _ _ this.2⟩
theorem find_c (h : RQR r l w S) (hl : l.length ≤ 1000) (id : Int) :
    Calls Try.prog 24 #[.pointer (some ⟨r, 0, none⟩), .int .i64 id] w fun e w' => (∃ z, e = .returned (.int .i64 z) ∧ FindP l id z) ∧ w' = w := by
  obtain ⟨A, c, hr⟩ := h
  have s0 := St.start hr
  have q0 := (s0.blk 0 rfl).one
  have ls := s0.lis 1 rfl
  have LS := Lib.hid ls
  obtain ⟨n, hn⟩ : ∃ n, l.length = n := ⟨_, rfl⟩
  rw [hn] at q0 hl
  have HN := Lib.hid hn
  clear hr s0 ls hn
  go_enter Try.func24, Try.ntmps24
  go_wp2_with fail
  go_loopw [5] (fun x wr => ∃ k : Nat, k ≤ n ∧ x = .int .i64 (k : Int) ∧ (∀ j x, j < k → l[j]? = some x → (x.1 : Int) ≠ id) ∧ wr = w) (fun x _ => n - (intOf x).toNat)
  case atStart => exact ⟨0, by omega, rfl, fun j x hj => by omega, rfl⟩
  case round =>
    obtain ⟨k, hk, rfl, hall, rfl⟩ := hrel
    have HA := Lib.hid hall
    clear hall
    by_cases hlt : k < n
    · obtain ⟨x, hx⟩ : ∃ x, l[k]? = some x := ⟨l[k]'(by have := HN.out; omega), List.getElem?_eq_getElem _⟩
      obtain ⟨b, off, rfl, m0, m1⟩ := mem_cell LS.out hx
      have HX := Lib.hid hx
      obtain ⟨x1, x2⟩ := x
      dsimp only at m0 m1
      clear hx
      by_cases e : (x1 : Int) = id
      · have q1 : ((x1 : Int) == id) = true := beq_iff_eq.2 e
        have HE := Lib.hid e
        clear e
        go_wp2_with fail
        go_ret
        exact ⟨⟨k, rfl, Or.inr ⟨k, _, rfl, HX.out, HE.out⟩⟩, rfl⟩
      · have q1 : ((x1 : Int) == id) = false := beq_eq_false_iff_ne.2 e
        have HE := Lib.hid e
        clear e
        go_wp2_with fail
        go_roundw
        case rel =>
          refine ⟨k + 1, by omega, by go_num, fun j y hj hy => ?_, by first | rfl | trivial⟩
          by_cases e : j = k
          · subst e
            have := HX.out.symm.trans hy
            injection this with this
            subst this
            exact HE.out
          · exact HA.out j y (by omega) hy
        case measure => simp [intOf]; omega
    · obtain rfl : k = n := by omega
      go_wp2_with fail
      go_ret
      refine ⟨⟨-1, rfl, Or.inl ⟨rfl, fun x hx => ?_⟩⟩, rfl⟩
      obtain ⟨j, hj, e⟩ := List.mem_iff_getElem.1 hx
      exact HA.out j x (by have := HN.out; omega) (by rw [← e]; exact List.getElem?_eq_getElem _)
theorem RFirst_c {s : QS} (h : RQR r s.all w S) (hl : s.all.length ≤ 1000) (a p f : Int) (hP : FirstP s a p f) :
    Calls Try.prog 17 #[.pointer (some ⟨r, 0, none⟩)] w fun e w' => e = .returned (.tuple #[.int .i64 a, .int .i64 p, .int .i64 f]) ∧ Below w.heap.size w w' := by
  obtain ⟨A, c, hr⟩ := h
  have s0 := St.start hr
  have q0 := (s0.blk 0 rfl).one
  have ls := s0.lis 1 rfl
  rcases hP with ⟨ha, rfl, rfl, rfl⟩ | ⟨x, t, ha, rfl, rfl, rfl⟩
  · rw [ha] at q0
    have q0' : w.cell? ⟨r, 0, none⟩ = some (.slice A 0 c) := q0
    clear hr s0 ls ha q0 hl
    go_enter Try.func17, Try.ntmps17
    go_wp2_with fail
    refine bodyPost_ret (v := .tuple #[.int .i64 0, .int .i64 0, .int .i64 5]) ?_ rfl ⟨rfl, Below.refl _ _⟩
    simp [results, go_sem]
  · obtain ⟨b, off, rfl, m0, m1⟩ := mem_cell ls (i := 0) (x := x) (by rw [ha]; rfl)
    obtain ⟨n, hn⟩ : ∃ n, s.all.length = n := ⟨_, rfl⟩
    rw [hn] at q0 hl
    have hn1 : 1 ≤ n := by rw [← hn, ha]; simp
    have z1 : ((n : Int) == 0) = false := beq_eq_false_iff_ne.2 (by omega)
    have z1' : (n == 0) = false := beq_eq_false_iff_ne.2 (by omega)
    have hn2 : (0 : Int) < (n : Int) := by omega
    obtain ⟨x1, x2⟩ := x
    dsimp only at m0 m1
    rw [Nat.zero_mul, Nat.add_zero] at m0 m1
    clear hr s0 ls ha hn
    go_enter Try.func17, Try.ntmps17
    go_wp2_with fail
    go_quiet (fail)
    go_wp2_with fail
    refine bodyPost_ret (v := .tuple #[.int .i64 x1, .int .i64 x2, .int .i64 0]) ?_ rfl ⟨rfl, below_drewN (Below.refl _ _) _⟩
    simp [results, go_sem]
theorem RAll_c (h : RQR r l w S) (hl : l.length ≤ 1000) :
    Calls Try.prog 20 #[.pointer (some ⟨r, 0, none⟩)] w fun e w' => ∃ B c, e = .returned (.slice B l.length c) ∧ St w None w' [LisR 3 1 (.slice B l.length c) l.length (ivs (l.map Prod.fst))] := by
  obtain ⟨iI, hiI, hzI, hsI, hbI⟩ := info3 Try.infoInt
  obtain ⟨A, c, hr⟩ := h
  have S1 := Lib.hid (fun (W : World) (hb : Below w.heap.size w W) => (St.start hr).stay hb)
  have SN := Lib.hid ((St.begin w).lis_nil 3 1)
  obtain ⟨n, hn⟩ : ∃ n, l.length = n := ⟨_, rfl⟩
  have HN := Lib.hid hn
  have hb : n ≤ 1000 := by omega
  rw [hn]
  clear hr hn hl
  go_enter Try.func20, Try.ntmps20
  go_wp2_with fail
  go_loopw [3, 4] (fun o x wr => ∃ (k : Nat) (B : Option Addr) (c : Nat), k ≤ n ∧ x = .int .i64 (k : Int) ∧ o = .slice B k c ∧ St w None wr [LisR 3 1 (.slice B k c) k (ivs ((l.take k).map Prod.fst))]) (fun _ x _ => n - (intOf x).toNat)
  case atStart => exact ⟨0, none, 0, by omega, rfl, rfl, SN.out⟩
  case round =>
    clear SN
    obtain ⟨k, B, cb, hk, rfl, rfl, sr⟩ := hrel
    have sq := S1.out wr sr.below
    have q0 := (sq.blk 0 rfl).one
    rw [HN.out] at q0
    by_cases hlt : k < n
    · obtain ⟨x, hx⟩ : ∃ x, l[k]? = some x := ⟨l[k]'(by have := HN.out; omega), List.getElem?_eq_getElem _⟩
      obtain ⟨b, off, rfl, m0, m1⟩ := mem_cell (sq.lis 1 rfl) hx
      obtain ⟨x1, x2⟩ := x
      dsimp only at m0 m1
      have HX := Lib.hid (show ivs ((l.take k).map Prod.fst) ++ [.int .i64 (x1 : Nat)] = ivs ((l.take (k + 1)).map Prod.fst) by
        rw [List.take_add_one, hx, List.map_append, ivs_app]; rfl)
      have s3' := sr.lis_new 3 1 1 #[.int .i64 (x1 : Nat)] rfl (by unfold maxLen; omega)
      have s3 : St w None (wr.alloc (.cells #[.int .i64 (x1 : Nat)] 3)) [LisR 3 1 (.slice B k cb) k (ivs ((l.take k).map Prod.fst)), LisR 3 1 (.slice (some ⟨wr.heap.size, 0, none⟩) 1 1) 1 [.int .i64 (x1 : Nat)]] := s3'
      have hl3 := s3.lis 0 rfl
      have hr3 := (s3.lis 1 rfl).reads
      have S3 := Lib.hid s3
      clear sq sr s3 s3' hx m1
      go_wp2_with (at_builtin; refine wpList_lis rfl (.tmp 14) (.tmp 23) 38 rfl 3 iI (.int .i64 0) 1 8 Try.underlying38 hiI hzI hsI hbI rfl (by decide) _ _ _ rfl hl3 (some ⟨wr.heap.size, 0, none⟩) 1 1 [.int .i64 (x1 : Nat)] rfl hr3 (by simp [Value.oneCell']) (by unfold maxLen; omega) (by omega) ?_; intro B4 cap4 w4 hl4 hg4 hat4; have s4 := (S3.out.lis_put 0 rfl hl4 hg4 hat4).take 1; rw [HX.out] at s4; have S4 := Lib.hid s4; clear hl4 hg4 hat4 s4 hl3 hr3)
      go_wp2_with fail
      go_roundw
      case rel => exact ⟨k + 1, B4, cap4, by omega, by go_num, rfl, S4.out⟩
      case measure => simp [intOf]; omega
    · obtain rfl : k = n := by omega
      have SR := Lib.hid sr
      clear sr sq
      go_wp2_with fail
      go_ret
      refine ⟨B, cb, rfl, ?_⟩
      have h := SR.out
      rw [List.take_of_length_le (by have := HN.out; omega)] at h
      exact h
end
end Go.Proofs.Ytebcdpgalbibkaa
