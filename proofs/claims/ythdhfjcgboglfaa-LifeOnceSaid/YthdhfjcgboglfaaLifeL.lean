/- Layer 19: who is late, in order. -/
import Derived.Test.YthdhfjcgboglfaaLifeK
import Derived.Lib.BitFns
import Derived.Lib.Strings
import Derived.Lib.Slices
import Derived.Lib.Small
import Derived.Lib.Walk
namespace Go.Proofs.Ythdhfjcgboglfaa
open Go.RowKit
set_option linter.unusedVariables false
set_option maxRecDepth 100000
set_option maxHeartbeats 2000000
theorem len64_0 (w : World) : Calls Try.prog 50 #[.int .u64 0] w fun e w' => e = .returned (.int .i64 0) ∧ w = w' := by
  go_enter Try.func50, Try.ntmps50
  go_wp2
  go_ret
  refine ⟨congrArg (fun z => Ending.returned (Value.int IntKind.i64 z)) ?_, rfl⟩
  have a := Lib.len8_of 0 (by omega) (by omega)
  have b : (Lib.bitLen (0 : Int).toNat : Int) = 0 := by decide
  rw [b] at a
  first
    | omega
    | (rw [a]; rfl)
    | (rw [a]; decide)
    | (rw [a]; simp)
    | (rw [a]; kernel_rfl)
    | (rw [a]; simp [wrap64])
    | (rw [a]; simp [wrap64]; omega)
theorem len_0 (w : World) : Calls Try.prog 47 #[.int .u64 0] w fun e w' => e = .returned (.int .i64 0) ∧ w = w' := by
  go_enter Try.func47, Try.ntmps47
  go_wp2_with (go_at_call 50; refine (len64_0 _).mono ?_; rintro e w' ⟨rfl, rfl⟩)
  go_ret
  exact ⟨rfl, rfl⟩
theorem ins_0 (A : Option Addr) (c : Nat) (f : Value) (w : World) : Calls Try.prog 52 #[.slice A 0 c, .int .i64 0, .int .i64 0, f] w fun e w' => e = .returned (.tuple #[]) ∧ w = w' := by
  go_enter Try.func52, Try.ntmps52
  go_wp2_with fail
  go_loopw [8] (fun i wr => i = .int .i64 1 ∧ wr = w) (fun i _ => 0)
  case atStart => exact ⟨rfl, rfl⟩
  case round =>
  obtain ⟨rfl, rfl⟩ := hrel
  go_wp2_with fail
  go_end0
  exact ⟨rfl, rfl⟩
theorem pdq_0 (A : Option Addr) (c : Nat) (f : Value) (w : World) : Calls Try.prog 46 #[.slice A 0 c, .int .i64 0, .int .i64 0, .int .i64 0, f] w fun e w' => e = .returned (.tuple #[]) ∧ w = w' := by
  have IC := Lib.hid (ins_0 A c f w)
  go_enter Try.func46, Try.ntmps46
  go_wp2_with fail
  go_loopw [1, 2, 3] (fun a b l wr => a = .int .i64 0 ∧ b = .int .i64 0 ∧ l = .int .i64 0 ∧ wr = w) (fun _ _ _ _ => 0)
  case atStart => exact ⟨rfl, rfl, rfl, rfl⟩
  case round =>
  obtain ⟨rfl, rfl, rfl, rfl⟩ := hrel
  go_wp2_with fail
  refine IC.out.mono ?_
  rintro e w1 ⟨rfl, rfl⟩
  go_wp2_with fail
  refine bodyPost_ret (v := .tuple #[]) ?_ rfl ⟨rfl, rfl⟩
  simp [results, go_sem]
theorem sort_0 (A : Option Addr) (c : Nat) (f : Value) (w : World) : Calls Try.prog 39 #[.slice A 0 c, f] w fun e w' => e = .returned (.tuple #[]) ∧ w = w' := by
  have LC := Lib.hid (len_0 w)
  have PC := Lib.hid (pdq_0 A c f w)
  go_enter Try.func39, Try.ntmps39
  go_wp2_with fail
  refine LC.out.mono ?_
  rintro e w1 ⟨rfl, rfl⟩
  go_wp2_with fail
  refine PC.out.mono ?_
  rintro e w1 ⟨rfl, rfl⟩
  go_wp2_with fail
  go_end0
  exact ⟨rfl, rfl⟩
def BookG (b cw mb : Nat) (A : Option Addr) (cap : Nat) (s : Bk) (now : Int) (T : Int → Option Int) : List Res :=
  [ArrR b 65 68 (bkV s cw mb A cap), WheelR cw now T, MapZR Try.prog 3 mb (cntO s.op) (mapO s.op), LisR 50 3 (.slice A s.un.length cap) s.un.length (fvs s.un)]
/-- The number of who has a timer. -/
def idN (op : Nat → Option (Int × Int)) (t : Int) : Nat := (wsO op t.toNat).toNat
/-- Late ones, by time, then number. -/
def LateP (op : Nat → Option (Int × Int)) (o : List Int) (l : List Nat) : Prop := l.Perm (o.map (idN op)) ∧ ∀ (a b : Nat) x y, a < b → l[a]? = some x → l[b]? = some y → ¬ ltN op y x
theorem wsO_id {s : Bk} (ok : s.ok) {k : Nat} (h : s.op k ≠ none) : ∃ u : Nat, wsO s.op k = (u : Int) ∧ u < 65536 := by
  cases ho : s.op k with
  | none => exact absurd ho h
  | some x =>
    have := ok.bd k x ho
    refine ⟨x.1.toNat, ?_, by omega⟩
    unfold wsO; rw [ho]
    show x.1 = _
    omega
section
variable {w0 w w' : World} {S0 : Nat → Prop} {L X : List Res} {b cw mb cap n c : Nat} {A T : Option Addr} {s : Bk} {o : List Int} {now : Int} {tt : Int → Option Int}
theorem late_c (H : St w0 S0 w (BookG b cw mb A cap s now tt ++ X)) (ok : s.ok) {i : Nat} (hi : X[i]? = some (LisR 3 1 (.slice T n c) n (iv o))) (hn : o.length = n) (hn1 : n ≤ 1000) (ho : ∀ t ∈ o, 0 ≤ t ∧ t < 64 ∧ s.op t.toNat ≠ none) :
    Calls Try.prog 32 #[.pointer (some ⟨b, 0, none⟩), .slice T n c] w fun e w' => ∃ B d q l, e = .returned (.slice B n d) ∧ LateP s.op o l ∧ St w0 S0 w' (LisR 3 1 (.slice B n d) n (nv l) :: BlkR q 25 #[.pointer (some ⟨b, 0, none⟩)] :: (BookG b cw mb A cap s now tt ++ X)) := by
  obtain ⟨iI, hiI, hzI, hsI, hbI⟩ := info3w YthdhfjcgboglfaaiI
  have s1 := H.front 25 #[.pointer (some ⟨b, 0, none⟩)]
  obtain ⟨q, hq⟩ : ∃ q, w.heap.size = q := ⟨_, rfl⟩
  obtain ⟨w1, hw1⟩ : ∃ w1, w.alloc (.cells #[.pointer (some ⟨b, 0, none⟩)] 25) = w1 := ⟨_, rfl⟩
  rw [hq, hw1] at s1
  have s2 := St.comm (B := [LisR 3 1 (.slice none 0 0) 0 []]) (s1.lis_nil 3 1)
  have S2 := Lib.hid (show St w0 S0 w1 (LisR 3 1 (.slice none 0 0) 0 (nv ((o.take 0).map (idN s.op))) :: BlkR q 25 #[.pointer (some ⟨b, 0, none⟩)] :: (BookG b cw mb A cap s now tt ++ X)) from s2)
  have HOK := Lib.hid ok
  have HO := Lib.hid ho
  have HN := Lib.hid hn
  have hi6 : (LisR 3 1 (.slice none 0 0) 0 [] :: BlkR q 25 #[.pointer (some ⟨b, 0, none⟩)] :: (BookG b cw mb A cap s now tt ++ X))[6 + i]? = some (LisR 3 1 (.slice T n c) n (iv o)) := by
    rw [show 6 + i = (4 + i) + 1 + 1 by omega, List.getElem?_cons_succ, List.getElem?_cons_succ]
    show (BookG b cw mb A cap s now tt ++ X)[4 + i]? = _
    rw [List.getElem?_append_right (by simp [BookG])]
    simpa [BookG] using hi
  have HI := Lib.hid (show ∀ R, (R :: BlkR q 25 #[.pointer (some ⟨b, 0, none⟩)] :: (BookG b cw mb A cap s now tt ++ X))[6 + i]? = some (LisR 3 1 (.slice T n c) n (iv o)) from fun R => by
    rw [show 6 + i = (5 + i) + 1 by omega] at hi6 ⊢
    exact hi6)
  clear H s1 s2 ok ho hn hi6 hi
  go_enter Try.func32, Try.ntmps32
  go_wp2_with fail
  go_loopw [5, 10] (fun x y wr => ∃ (k : Nat) (B : Option Addr) (d : Nat), k ≤ n ∧ y = .int .i64 (k : Int) ∧ x = .slice B k d ∧ St w0 S0 wr (LisR 3 1 (.slice B k d) k (nv ((o.take k).map (idN s.op))) :: BlkR q 25 #[.pointer (some ⟨b, 0, none⟩)] :: (BookG b cw mb A cap s now tt ++ X))) (fun _ y _ => n - (intOf y).toNat)
  case atStart => exact ⟨0, none, 0, by omega, rfl, rfl, S2.out⟩
  case round =>
    clear S2 hw1 hq
    obtain ⟨k, B, d, hk, rfl, rfl, sr⟩ := hrel
    have SR := Lib.hid sr
    by_cases hlt : k < n
    · have t1 : decide ((k : Int) < (n : Int)) = true := decide_eq_true (by omega)
      have t1' : decide (k < n) = true := decide_eq_true hlt
      obtain ⟨t, ht⟩ : ∃ t, o[k]? = some t := ⟨_, List.getElem?_eq_getElem (show k < o.length by rw [HN.out]; exact hlt)⟩
      obtain ⟨h0, h1, h2⟩ := HO.out t (List.mem_of_getElem? ht)
      obtain ⟨tn, rfl⟩ : ∃ tn : Nat, t = (tn : Int) := ⟨t.toNat, by omega⟩
      rw [Int.toNat_natCast] at h2
      obtain ⟨u, hu, hu6⟩ := wsO_id HOK.out h2
      have hT := (sr.lis (6 + i) (HI.out _)).reads.2.resolve_left (by omega)
      obtain ⟨g, off, rfl, hc⟩ := hT
      have x0 := hc k _ (iv_get ht)
      have b0 := (sr.blk 1 rfl).one
      have c1 := sr.arr_cell 2 rfl (k := 3 + tn) (by omega)
      unfold bkV at c1
      rw [if_neg (by omega), if_neg (by omega), if_neg (by omega), if_pos (by omega), Nat.add_sub_cancel_left, hu] at c1
      have s5 := sr.alloc (.cells #[.int .i64 (u : Int)] 3)
      have S5 := Lib.hid s5
      have HL5 := Lib.hid (s5.lis 0 rfl)
      have RB := Lib.hid (rds_box wr 3 (.int .i64 (u : Int)))
      have HV := Lib.hid (show nv ((o.take k).map (idN s.op)) ++ [.int .i64 (u : Int)] = nv ((o.take (k + 1)).map (idN s.op)) by
        rw [List.take_add_one, ht, List.map_append, nv_app]
        show _ = _ ++ nv [idN s.op (tn : Int)]
        congr 1
        unfold nv encN idN
        rw [Int.toNat_natCast, hu]
        simp
        omega)
      clear hc sr s5 SR ht h2 hu
      go_wp2_with (first
        | (at_builtin; refine wpList_lis rfl (.tmp 14) (.tmp 21) 75 rfl 3 iI (.int .i64 0) 1 8 Try.underlying75 hiI hzI hsI hbI rfl (by decide) _ _ _ rfl HL5.out _ 1 1 [.int .i64 (u : Int)] rfl RB.out (by simp [Value.oneCell']) (by unfold maxLen; omega) (by omega) ?_; intro D cD w6 hl hg hat; have t6 := S5.out.lis_put 0 rfl hl hg hat; rw [HV.out] at t6; have S6 := Lib.hid t6; clear hl hg hat t6)
        | fail)
      go_roundw
      case rel => exact ⟨k + 1, D, cD, by omega, by go_num, rfl, S6.out⟩
      case measure => simp [intOf]; omega
    · obtain rfl : k = n := by omega
      have t1 : decide ((k : Int) < (k : Int)) = false := decide_eq_false (by omega)
      have t1' : decide (k < k) = false := decide_eq_false hlt
      have SC0 : Calls Try.prog 39 #[.slice B k d, .func (.func 40) #[] #[.pointer (some ⟨q, 0, none⟩)]] wr fun e w' => e = .returned (.tuple #[]) ∧ ∃ l' : List Nat, LateP s.op o l' ∧
          St w0 S0 w' (LisR 3 1 (.slice B k d) k (nv l') :: BlkR q 25 #[.pointer (some ⟨b, 0, none⟩)] :: (BookG b cw mb A cap s now tt ++ X)) := by
        have et : (o.take k).map (idN s.op) = o.map (idN s.op) := by rw [List.take_of_length_le (by rw [HN.out]; exact Nat.le_refl k)]
        rw [et] at sr
        rcases Nat.eq_zero_or_pos k with h0 | h0
        · subst h0
          have hnil : o = [] := List.eq_nil_of_length_eq_zero HN.out
          refine (sort_0 B d _ wr).mono ?_
          rintro e w2 ⟨rfl, rfl⟩
          exact ⟨rfl, _, ⟨List.Perm.refl _, fun a b x y _ hx => by rw [hnil] at hx; simp at hx⟩, sr⟩
        · obtain ⟨g, off, rfl, _⟩ := (sr.lis 0 rfl).reads.2.resolve_left (by omega)
          refine (sort_n (op := s.op) (j := 1) (k := 2) (e := 4) sr (i := 0) rfl (by omega) h0 rfl rfl (by unfold bkV; rw [if_neg (by omega), if_neg (by omega), if_pos rfl]) rfl (by omega) (by omega) (by omega)).mono ?_
          rintro e w2 ⟨rfl, l', h1, h2, h3⟩
          exact ⟨rfl, l', ⟨h1, h2⟩, h3⟩
      have SC := Lib.hid SC0
      clear SC0 sr SR
      go_wp2_with fail
      refine SC.out.mono ?_
      rintro e w2 ⟨rfl, l', h1, h2⟩
      have K := Lib.hid (And.intro h1 h2)
      clear h1 h2 SC
      go_wp2_with fail
      go_ret
      exact ⟨B, d, q, l', rfl, K.out.1, K.out.2⟩
end
end Go.Proofs.Ythdhfjcgboglfaa
