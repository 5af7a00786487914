/-
  For every list of locks and every order LockNests answers true, and changes nothing: locks that one member takes are given back the other way round, and no other way; its urgency goes back step by step. No condition.
-/
import Derived.Test.YtpfodchdpafofaaRows
import Derived.Test.YtpfodchdpafofaaFr
import Derived.Test.YtpfodchdpafofaaLockK
import Derived.Deep.DeepCutAuto
import Derived.Deep.CutBlock
import Derived.Deep.QuietTactic
namespace Go.Proofs.Ytpfodchdpafofaa.lockNests
open Go.ChangeShapes Go.WideShapes Go.ChangeAt Go.RowKit
set_option linter.unusedVariables false
theorem own : ownKnob Try.prog.godebug = none := by kernel_rfl
theorem laid : laidOutB Try.prog = true := by kernel_rfl
set_option maxRecDepth 100000
set_option maxHeartbeats 8000000
theorem low_same {s s' : KS} (h : s.ceils = s'.ceils) (l : List Nat) (p : Int) : s.low l p = s'.low l p := by unfold KS.low KS.ceil; rw [h]
def Ns (s : KS) (l : List Int) (tk : List Nat) : Prop := s.mem 5 = some ⟨100, tk⟩ ∧ (∀ j, j ≠ 5 → s.mem j = none) ∧ s.ceils = l
/-- The urgencies on the way. -/
def Pr (l : List Int) (tk : List Nat) (pr : List Int) : Prop := pr.length = tk.length + 1 ∧ ∀ j, j ≤ tk.length → pr[j]? = some ((KS.new l).low (tk.take j) 100)
theorem ns_new (l : List Int) : Ns ((KS.new l).set 5 (some ⟨100, []⟩)) l [] := ⟨rfl, fun j h => if_neg h, rfl⟩
theorem pr_new (l : List Int) : Pr l [] [100] := ⟨rfl, fun j h => by obtain rfl : j = 0 := by simpa using h
                                                                     rfl⟩
theorem ns_in {s : KS} {l : List Int} {tk : List Nat} {y : Nat} (h : Ns s l tk) (hy : y < s.ceils.length) (hi : y ∈ tk) : TakeP s 5 (y : Int) 7 s :=
  Or.inr ⟨y, rfl, hy, Or.inr ⟨_, h.1, Or.inl ⟨hi, rfl, rfl⟩⟩⟩
theorem ns_out {s : KS} {l : List Int} {tk : List Nat} {y : Nat} (h : Ns s l tk) (hs : s.ok) (hy : y < s.ceils.length) (hi : y ∉ tk) : ∃ s', TakeP s 5 (y : Int) 0 s' ∧ Ns s' l (tk ++ [y]) := by
  refine ⟨_, Or.inr ⟨y, rfl, hy, Or.inr ⟨_, h.1, Or.inr (Or.inr (Or.inr ⟨hi, (hs.ceilB hy).2, fun j ⟨m, hm, hx⟩ => ?_, rfl, rfl⟩))⟩⟩, rfl, fun j e => (if_neg e).trans (h.2.1 j e), h.2.2⟩
  by_cases e : j = 5
  · subst e; rw [h.1] at hm; injection hm with hm; subst hm; exact hi hx
  · rw [h.2.1 j e] at hm; cases hm
theorem pr_snoc {l : List Int} {tk : List Nat} {pr : List Int} {y : Nat} (h : Pr l tk pr) : Pr l (tk ++ [y]) (pr ++ [(KS.new l).low (tk ++ [y]) 100]) := by
  refine ⟨by simp [h.1], fun j hj => ?_⟩
  simp at hj
  by_cases e : j ≤ tk.length
  · rw [List.getElem?_append_left (by rw [h.1]; omega), h.2 j e, List.take_append_of_le_length e]
  · obtain rfl : j = tk.length + 1 := by omega
    rw [List.getElem?_append_right (by rw [h.1]; omega), h.1, Nat.sub_self, List.take_of_length_le (by simp)]
    rfl
theorem take_succ_x {tk : List Nat} {c x : Nat} (h : tk[c]? = some x) : tk.take (c + 1) = tk.take c ++ [x] := by rw [List.take_add_one, h]; rfl
theorem ns_state {s : KS} {l : List Int} {tk : List Nat} {c j x y : Nat} (h : Ns s l (tk.take (c + 1))) (hd : tk.Nodup) (hx : tk[c]? = some x) (hj : j < c) (hy : tk[j]? = some y) : BackP s 5 y 12 s := by
  obtain ⟨h1, e1⟩ := List.getElem?_eq_some_iff.1 hx
  obtain ⟨h2, e2⟩ := List.getElem?_eq_some_iff.1 hy
  refine ⟨_, h.1, ?_, Or.inr ⟨tk.take c, x, take_succ_x hx, fun e => ?_, rfl, rfl⟩⟩
  · exact List.mem_of_getElem? (i := j) (by rw [List.getElem?_take, if_pos (by omega)]; exact hy)
  · have := List.pairwise_iff_getElem.1 hd j c h2 h1 hj
    rw [e1, e2] at this
    exact this e.symm
theorem ns_back {s : KS} {l : List Int} {tk : List Nat} {c x : Nat} (h : Ns s l (tk.take (c + 1))) (hx : tk[c]? = some x) : ∃ s', BackP s 5 x 0 s' ∧ Ns s' l (tk.take c) :=
  ⟨_, ⟨_, h.1, by rw [take_succ_x hx]; simp, Or.inl ⟨_, take_succ_x hx, rfl, rfl⟩⟩, rfl, fun j e => (if_neg e).trans (h.2.1 j e), h.2.2⟩
theorem walk (A : Option Addr) (n cap : Nat) (V : Nat → Nat → Value) (A1 : Option Addr) (n1 cap1 : Nat) (f : Nat → Int) (w : World) (hm : n ≤ maxLen) (hm1 : n1 ≤ maxLen) (rd : RdM w A n 1 V) (hV : ∀ j, j < n → ∃ z : Int, V j 0 = .int .i64 z) (hf : ∀ j, 0 ≤ f j ∧ f j ≤ 255) (rd1 : Rd w A1 n1 (fun i => .int .u8 (f i))) :
    Calls Try.prog 4 #[.slice A n cap, .slice A1 n1 cap1] w fun r w' => r = .returned (.bool true) ∧ Below w.heap.size w w' := by
  unfold maxLen at hm hm1
  obtain ⟨l, hl, hr⟩ := list_of rd hV
  have AW := Lib.hid (awake_s (St.begin w))
  have HR := Lib.hid hr
  have HL := Lib.hid hl
  have HR1 := Lib.hid rd1
  have HF := Lib.hid hf
  clear rd hV hr hl rd1 hf
  by_cases hmay : mayK l
  case neg =>
    have RM := Lib.hid (fun w1 (K : Below w.heap.size w w1) => rMay_c (d := cap) w1 (HR.out.stay K) HL.out (by omega) false (decide_eq_false hmay).symm)
    clear hmay
    go_enter Try.func4, Try.ntmps4
    go_wp2_with fail
    refine AW.out.mono ?_
    rintro r w1 ⟨rfl, s1⟩
    have R1 := Lib.hid (RM.out w1 s1.below)
    go_wp2_with fail
    refine R1.out.mono ?_
    rintro r w2 ⟨rfl, rfl⟩
    go_wp2_with fail
    go_ret
    exact ⟨rfl, s1.below⟩
  have RM := Lib.hid (fun w1 (K : Below w.heap.size w w1) => rMay_c (d := cap) w1 (HR.out.stay K) HL.out (by omega) true (decide_eq_true hmay).symm)
  have HM := Lib.hid hmay
  have hn1 : 1 ≤ n ∧ n ≤ 16 := by have := hmay.2; rw [HL.out] at this; exact this
  clear hmay
  by_cases h16 : 30 < n1
  · have d1 : decide (30 < (n1 : Int)) = true := decide_eq_true (by omega)
    have d1' : decide (30 < n1) = true := decide_eq_true h16
    go_enter Try.func4, Try.ntmps4
    go_wp2_with fail
    refine AW.out.mono ?_
    rintro r w1 ⟨rfl, s1⟩
    have R1 := Lib.hid (RM.out w1 s1.below)
    go_wp2_with fail
    refine R1.out.mono ?_
    rintro r w2 ⟨rfl, rfl⟩
    go_wp2_with fail
    go_ret
    exact ⟨rfl, s1.below⟩
  have d1 : decide (30 < (n1 : Int)) = false := decide_eq_false (by omega)
  have d1' : decide (30 < n1) = false := decide_eq_false h16
  have h30 : n1 ≤ 30 := by omega
  clear h16
  go_enter Try.func4, Try.ntmps4
  go_wp2_with fail
  refine AW.out.mono ?_
  rintro r w1 ⟨rfl, s1⟩
  have R1 := Lib.hid (RM.out w1 s1.below)
  have N1 := Lib.hid (New_o (d := cap) s1 (HR.out.stay s1.below) HL.out hn1.1 hn1.2 HM.out.1)
  clear s1 AW RM
  go_wp2_with fail
  refine R1.out.mono ?_
  rintro r w2 ⟨rfl, rfl⟩
  go_wp2_with fail
  refine N1.out.mono ?_
  rintro r w2 ⟨k, rfl, s2⟩
  have OK0 := Lib.hid (KS.new_ok (l := l) (by rw [HL.out]; omega) (by rw [HL.out]; omega) HM.out.1)
  have C1 := Lib.hid (show Calls Try.prog 11 #[.pointer (some ⟨k, 0, none⟩), .int .i64 5, .int .i64 100] w2 _ from Know_o s2 0 rfl OK0.out (i := 5) (by decide) (fun m h => by cases h) (p := 100) (by decide) (by decide))
  clear s2 R1 N1
  go_wp2_with fail
  refine C1.out.mono ?_
  rintro r w3 ⟨rfl, s3⟩
  have OK1 := Lib.hid (know_ok OK0.out (i := 5) (by decide) (p := 100) (by decide))
  have S4 := Lib.hid (show St w None (w3.alloc (.cells #[.int .i64 100] 3)) [KR k 1 ((KS.new l).set 5 (some ⟨100, []⟩)), LisR 3 1 (.slice none 0 0) 0 (ivs []), LisR 3 1 (.slice (some ⟨w3.heap.size, 0, none⟩) 1 1) 1 (cvs [100])] from (s3.lis_nil 3 1).lis_new 3 1 1 #[.int .i64 100] rfl (by unfold maxLen; omega))
  obtain ⟨iI, hiI, hzI, hsI, hbI⟩ := info3k Try.infoInt
  clear C1 s3
  go_wp2_with fail
  go_loopw [7, 8, 9] (fun h p t wr => ∃ (i : Nat) (s : KS) (tk : List Nat) (pr : List Int) (B D : Option Addr) (cb cd m : Nat), i ≤ n1 ∧ t = .int .i64 (i : Int) ∧ h = .slice B m cb ∧ p = .slice D (m + 1) cd ∧ m = tk.length ∧ m ≤ i ∧ s.ok ∧ Ns s l tk ∧ Pr l tk pr ∧ St w None wr [KR k 1 s, LisR 3 1 (.slice B m cb) m (ivs tk), LisR 3 1 (.slice D (m + 1) cd) (m + 1) (cvs pr)]) (fun _ _ t _ => n1 - (intOf t).toNat)
  case atStart => exact ⟨0, _, [], [100], none, _, 0, 1, 0, by omega, rfl, rfl, rfl, rfl, by omega, OK1.out, ns_new l, pr_new l, S4.out⟩
  case round =>
  clear S4 OK1
  obtain ⟨i, s, tk, pr, B, D, cb, cd, m, hi, rfl, rfl, rfl, hml, hmi, hok, hns, hpr, sr⟩ := hrel
  have OK := Lib.hid hok
  have HN := Lib.hid hns
  have HP := Lib.hid hpr
  have HML := Lib.hid hml
  have SR := Lib.hid sr
  clear hok hns hpr hml sr
  by_cases hin : i < n1
  case pos =>
    have t1 : decide ((i : Int) < (n1 : Int)) = true := decide_eq_true (by omega)
    have t1' : decide (i < n1) = true := decide_eq_true hin
    obtain ⟨g, off, rfl, _, hc⟩ := HR1.out (by omega)
    have e0 : wr.cell? ⟨g, off + i, none⟩ = some (.int .u8 (f i)) := by
      have h : w.cell? ⟨g, off + i, none⟩ = some (.int .u8 (f i)) := hc i hin
      rw [SR.out.below.cell (block_lt h)]; exact h
    obtain ⟨z, hz⟩ : ∃ z, z = f i := ⟨_, rfl⟩
    have hzb := HF.out i
    rw [← hz] at e0 hzb
    obtain ⟨y, hy⟩ : ∃ y : Nat, (y : Int) = z % (n : Int) := ⟨(z % (n : Int)).toNat, by have := Int.emod_nonneg z (show (n : Int) ≠ 0 by omega); omega⟩
    have hyn : y < n := by have := Int.emod_lt_of_pos z (show 0 < (n : Int) by omega); omega
    have hrem : Int.tmod z (n : Int) = (y : Int) := by rw [Int.tmod_eq_emod_of_nonneg hzb.1]; exact hy.symm
    have i0 : (0 : Int) ≤ (i : Int) := by omega
    have i1 : (i : Int) < (n1 : Int) := by omega
    have d9 : ((n : Int) == 0) = false := beq_eq_false_iff_ne.2 (by omega)
    have d9' : (n == 0) = false := beq_eq_false_iff_ne.2 (by omega)
    have hyl : y < s.ceils.length := by rw [HN.out.2.2, HL.out]; exact hyn
    clear hc hz hy
    -- the inner loop: is it mine?
    by_cases hmine : y ∈ tk
    · have TC := Lib.hid (show Calls Try.prog 14 #[.pointer (some ⟨k, 0, none⟩), .int .i64 5, .int .i64 (y : Int)] wr _ from Take_o SR.out 0 rfl OK.out (i := 5) (by decide) (ns_in HN.out hyl hmine))
      have HMI := Lib.hid hmine
      clear hmine
      go_wp2_with fail
      refine TC.out.mono ?_
      rintro r w4 ⟨rfl, s4⟩
      have S4 := Lib.hid (show St w None w4 [KR k 1 s, LisR 3 1 (.slice B m cb) m (ivs tk), LisR 3 1 (.slice D (m + 1) cd) (m + 1) (cvs pr)] from s4)
      clear TC s4 e0 hrem
      go_wp2_with fail
      go_loopw [12, 13] (fun b t wx => ∃ j : Nat, j ≤ m ∧ t = .int .i64 (j : Int) ∧ b = .bool (decide (y ∈ tk.take j)) ∧ wx = w4) (fun _ t _ => m - (intOf t).toNat)
      case atStart => exact ⟨0, by omega, rfl, rfl, rfl⟩
      case round =>
      obtain ⟨j, hj, rfl, rfl, rfl⟩ := hrel
      by_cases hjm : j < m
      · have t2 : decide ((j : Int) < (m : Int)) = true := decide_eq_true (by omega)
        have t2' : decide (j < m) = true := decide_eq_true hjm
        by_cases hb : y ∈ tk.take j
        · have HB' := Lib.hid (show decide (y ∈ tk.take (j + 1)) = true from decide_eq_true (List.mem_of_getElem? (i := (List.getElem?_of_mem hb).choose) (by
            have h := (List.getElem?_of_mem hb).choose_spec
            rw [List.getElem?_take] at h ⊢
            split at h
            · rw [if_pos (by omega)]; exact h
            · cases h)))
          rw [decide_eq_true hb]
          clear hb
          go_wp2_with fail
          go_roundw
          case rel => exact ⟨j + 1, by omega, by go_num, by rw [HB'.out], by first | rfl | trivial⟩
          case measure => simp [intOf]; omega
        · obtain ⟨x, hx⟩ : ∃ x, tk[j]? = some x := ⟨_, List.getElem?_eq_getElem (by rw [← HML.out]; exact hjm)⟩
          obtain ⟨g1, o1, rfl, hc1⟩ := (S4.out.lis 1 rfl).at_ (by omega)
          have a1 := hc1 j _ (ivs_get hx)
          have j0 : (0 : Int) ≤ (j : Int) := by omega
          have j1 : (j : Int) < (m : Int) := by omega
          rw [decide_eq_false hb]
          by_cases hxy : x = y
          · subst hxy
            have z1 : ((x : Int) == (x : Int)) = true := beq_self_eq_true _
            have z1' : (x == x) = true := beq_self_eq_true _
            have HB' := Lib.hid (show decide (x ∈ tk.take (j + 1)) = true from decide_eq_true (by rw [take_succ_x hx]; simp))
            clear hb hx hc1
            go_wp2_with fail
            go_roundw
            case rel => exact ⟨j + 1, by omega, by go_num, by rw [HB'.out], by first | rfl | trivial⟩
            case measure => simp [intOf]; omega
          · have z1 : ((x : Int) == (y : Int)) = false := beq_eq_false_iff_ne.2 (by omega)
            have z1' : (x == y) = false := beq_eq_false_iff_ne.2 hxy
            have HB' := Lib.hid (show decide (y ∈ tk.take (j + 1)) = false from decide_eq_false (by rw [take_succ_x hx]; simp [hb]; omega))
            clear hb hx hc1 hxy
            go_wp2_with fail
            go_roundw
            case rel => exact ⟨j + 1, by omega, by go_num, by rw [HB'.out], by first | rfl | trivial⟩
            case measure => simp [intOf]; omega
      · have t2 : decide ((j : Int) < (m : Int)) = false := decide_eq_false (by omega)
        have t2' : decide (j < m) = false := decide_eq_false hjm
        have hb : y ∈ tk.take j := by rw [List.take_of_length_le (by rw [← HML.out]; omega)]; exact HMI.out
        rw [decide_eq_true hb]
        clear hb
        go_wp2_with fail
        go_roundw
        case rel => exact ⟨i + 1, s, tk, pr, B, D, cb, cd, m, by omega, by go_num, rfl, rfl, HML.out, by omega, OK.out, HN.out, HP.out, S4.out⟩
        case measure => simp [intOf]; omega
    · obtain ⟨s', hT, hns'⟩ := ns_out HN.out OK.out hyl hmine
      have TC := Lib.hid (show Calls Try.prog 14 #[.pointer (some ⟨k, 0, none⟩), .int .i64 5, .int .i64 (y : Int)] wr _ from Take_o SR.out 0 rfl OK.out (i := 5) (by decide) hT)
      have HMI := Lib.hid hmine
      have OK' := Lib.hid (hT.ok OK.out)
      have HN' := Lib.hid hns'
      clear hmine hT hns'
      go_wp2_with fail
      refine TC.out.mono ?_
      rintro r w4 ⟨rfl, s4⟩
      have S4 := Lib.hid (show St w None w4 [KR k 1 s', LisR 3 1 (.slice B m cb) m (ivs tk), LisR 3 1 (.slice D (m + 1) cd) (m + 1) (cvs pr)] from s4)
      clear TC s4 e0 hrem
      go_wp2_with fail
      go_loopw [12, 13] (fun b t wx => ∃ j : Nat, j ≤ m ∧ t = .int .i64 (j : Int) ∧ b = .bool false ∧ wx = w4) (fun _ t _ => m - (intOf t).toNat)
      case atStart => exact ⟨0, by omega, rfl, rfl, rfl⟩
      case round =>
      obtain ⟨j, hj, rfl, rfl, rfl⟩ := hrel
      by_cases hjm : j < m
      · have t2 : decide ((j : Int) < (m : Int)) = true := decide_eq_true (by omega)
        have t2' : decide (j < m) = true := decide_eq_true hjm
        obtain ⟨x, hx⟩ : ∃ x, tk[j]? = some x := ⟨_, List.getElem?_eq_getElem (by rw [← HML.out]; exact hjm)⟩
        obtain ⟨g1, o1, rfl, hc1⟩ := (S4.out.lis 1 rfl).at_ (by omega)
        have a1 := hc1 j _ (ivs_get hx)
        have j0 : (0 : Int) ≤ (j : Int) := by omega
        have j1 : (j : Int) < (m : Int) := by omega
        have hxy : x ≠ y := fun e => HMI.out (e ▸ List.mem_of_getElem? hx)
        have z1 : ((x : Int) == (y : Int)) = false := beq_eq_false_iff_ne.2 (by omega)
        have z1' : (x == y) = false := beq_eq_false_iff_ne.2 hxy
        clear hx hc1 hxy
        go_wp2_with fail
        go_roundw
        case rel => exact ⟨j + 1, by omega, by go_num, by first | rfl | trivial, by first | rfl | trivial⟩
        case measure => simp [intOf]; omega
      have t2 : decide ((j : Int) < (m : Int)) = false := decide_eq_false (by omega)
      have t2' : decide (j < m) = false := decide_eq_false hjm
      obtain ⟨wy, hwy⟩ : ∃ wy, wy = wr := ⟨_, rfl⟩
      subst hwy
      have s5 := S4.out.alloc (.cells #[.int .i64 (y : Int)] 3)
      have HL5 := Lib.hid (s5.lis 1 rfl)
      have RB5 := Lib.hid (show Rds (wy.alloc (.cells #[.int .i64 (y : Int)] 3)) (some ⟨wy.heap.size, 0, none⟩) 1 1 (ivs [y]) from rds_box wy _ _)
      have S5 := Lib.hid s5
      obtain ⟨q, hq⟩ : ∃ q, q = (KS.new l).low (tk ++ [y]) 100 := ⟨_, rfl⟩
      have HQ := Lib.hid hq
      have HCU := Lib.hid (show s'.cur ⟨100, tk ++ [y]⟩ = q from by rw [hq]; exact low_same HN'.out.2.2 _ _)
      have HP' := Lib.hid (show Pr l (tk ++ [y]) (pr ++ [q]) by rw [hq]; exact pr_snoc HP.out)
      have HAP := Lib.hid (show ivs tk ++ ivs [y] = ivs (tk ++ [y]) by rw [ivs_app])
      have HAQ := Lib.hid (show cvs pr ++ cvs [q] = cvs (pr ++ [q]) by rw [cvs_app])
      have HML' := Lib.hid (show m + 1 = (tk ++ [y]).length by rw [List.length_append, ← HML.out]; rfl)
      clear s5 hq hjm
      go_wp2_with (at_builtin; refine wpList_lis rfl (.tmp 92) (.tmp 94) 34 rfl 3 iI (.int .i64 0) 1 8 Try.underlying34 hiI hzI hsI hbI rfl (by decide) _ _ _ rfl HL5.out _ 1 1 (ivs [y]) rfl RB5.out (ivs_one _) (by unfold maxLen; omega) (by omega) ?_; intro E cE w5 hl hg hat; have t5 := S5.out.lis_put 1 rfl hl hg hat; rw [HAP.out] at t5; have S6 := Lib.hid (show St w None w5 [KR k 1 s', LisR 3 1 (.slice E (m + 1) cE) (m + 1) (ivs (tk ++ [y])), LisR 3 1 (.slice D (m + 1) cd) (m + 1) (cvs pr)] from t5); have PC := Lib.hid (show Calls Try.prog 13 #[.pointer (some ⟨k, 0, none⟩), .int .i64 5] w5 (fun e w' => e = .returned (.tuple #[.int .i64 q, .int .i64 0]) ∧ w5 = w') from (by rw [← HCU.out]; exact Prio_o S6.out 0 rfl OK'.out (i := 5) HN'.out.1)); clear hl hg hat t5)
      refine PC.out.mono ?_
      rintro r w6 ⟨rfl, rfl⟩
      obtain ⟨lp, hlp⟩ : ∃ lp, pr[m]? = some lp := ⟨_, HP.out.2 m (by rw [← HML.out]; exact Nat.le_refl _)⟩
      obtain ⟨x, hx⟩ : ∃ x, l[y]? = some x := ⟨_, List.getElem?_eq_getElem (by rw [HL.out]; exact hyn)⟩
      have hmin : q = min lp x := by
        have h1 := HP.out.2 m (by rw [← HML.out]; exact Nat.le_refl _)
        rw [hlp, List.take_of_length_le (by rw [← HML.out]; exact Nat.le_refl _)] at h1
        injection h1 with h1
        rw [HQ.out, low_snoc, h1]
        have : (KS.new l).ceil y = x := by show l.getD y 0 = x; rw [List.getD_eq_getElem?_getD, hx]; rfl
        rw [this]
      have HMN := Lib.hid hmin
      obtain ⟨g2, o2, rfl, hc2⟩ := (S6.out.lis 2 rfl).at_ (by omega)
      have a2 := hc2 m _ (cvs_get hlp)
      obtain ⟨g3, o3, rfl, hc3⟩ := HR.out.2.resolve_left (by omega)
      have a3 : w5.cell? ⟨g3, o3 + y, none⟩ = some (.int .i64 x) := by
        have h := hc3 y _ (cvs_get hx)
        rw [S6.out.below.cell (block_lt h)]; exact h
      have m0 : (0 : Int) ≤ (m : Int) := by omega
      have m1 : (m : Int) < ((m + 1 : Nat) : Int) := by omega
      have m2 : (m : Int) < (m : Int) + 1 := by omega
      have hw1 : IntKind.i64.wrap (((m + 1 : Nat) : Int) - 1) = (m : Int) := by rw [IntWalk.i64_in _ ⟨by omega, by omega⟩]; omega
      have hw2 : IntKind.i64.wrap ((m : Int) + 1 - 1) = (m : Int) := by rw [IntWalk.i64_in _ ⟨by omega, by omega⟩]; omega
      have y0 : (0 : Int) ≤ (y : Int) := by omega
      have y1 : (y : Int) < (n : Int) := by omega
      have z3 : (q != q) = false := by simp
      have SX := S6
      clear hlp hx hc2 hc3 hmin PC
      by_cases hlx : lp < x
      · have e1 : (if lp < x then lp else x) = q := by rw [if_pos hlx, HMN.out]; omega
        have e2 : (if x < lp then x else lp) = q := by rw [if_neg (by omega), HMN.out]; omega
        clear hlx
        go_wp2_with fail
        go_quiet (fail)
        have s7 := (SX.out.drewN nq).alloc (.cells #[.int .i64 q] 3)
        have HL7 := Lib.hid (s7.lis 2 rfl)
        have RB7 := Lib.hid (show Rds ((w5.drewN nq).alloc (.cells #[.int .i64 q] 3)) (some ⟨(w5.drewN nq).heap.size, 0, none⟩) 1 1 (cvs [q]) from rds_box (w5.drewN nq) _ _)
        have S7 := Lib.hid s7
        clear s7 hw1 hw2
        go_wp2_with (at_builtin; refine wpList_lis rfl (.tmp 115) (.tmp 117) 34 rfl 3 iI (.int .i64 0) 1 8 Try.underlying34 hiI hzI hsI hbI rfl (by decide) _ _ _ rfl HL7.out _ 1 1 (cvs [q]) rfl RB7.out (cvs_one _) (by unfold maxLen; omega) (by omega) ?_; intro F cF w7 hl hg hat; have t7 := S7.out.lis_put 2 rfl hl hg hat; rw [HAQ.out] at t7; have S8 := Lib.hid (show St w None w7 [KR k 1 s', LisR 3 1 (.slice E (m + 1) cE) (m + 1) (ivs (tk ++ [y])), LisR 3 1 (.slice F (m + 1 + 1) cF) (m + 1 + 1) (cvs (pr ++ [q]))] from t7); clear hl hg hat t7)
        go_roundw
        case rel => exact ⟨i + 1, s', _, _, E, F, cE, cF, m + 1, by omega, by go_num, rfl, rfl, HML'.out, by omega, OK'.out, HN'.out, HP'.out, S8.out⟩
        case measure => simp [intOf]; omega
      · have e1 : (if lp < x then lp else x) = q := by rw [if_neg hlx, HMN.out]; omega
        have e2 : (if x < lp then x else lp) = q := by rw [HMN.out]; split <;> omega
        clear hlx
        go_wp2_with fail
        go_quiet (fail)
        have s7 := (SX.out.drewN nq).alloc (.cells #[.int .i64 q] 3)
        have HL7 := Lib.hid (s7.lis 2 rfl)
        have RB7 := Lib.hid (show Rds ((w5.drewN nq).alloc (.cells #[.int .i64 q] 3)) (some ⟨(w5.drewN nq).heap.size, 0, none⟩) 1 1 (cvs [q]) from rds_box (w5.drewN nq) _ _)
        have S7 := Lib.hid s7
        clear s7 hw1 hw2
        go_wp2_with (at_builtin; refine wpList_lis rfl (.tmp 115) (.tmp 117) 34 rfl 3 iI (.int .i64 0) 1 8 Try.underlying34 hiI hzI hsI hbI rfl (by decide) _ _ _ rfl HL7.out _ 1 1 (cvs [q]) rfl RB7.out (cvs_one _) (by unfold maxLen; omega) (by omega) ?_; intro F cF w7 hl hg hat; have t7 := S7.out.lis_put 2 rfl hl hg hat; rw [HAQ.out] at t7; have S8 := Lib.hid (show St w None w7 [KR k 1 s', LisR 3 1 (.slice E (m + 1) cE) (m + 1) (ivs (tk ++ [y])), LisR 3 1 (.slice F (m + 1 + 1) cF) (m + 1 + 1) (cvs (pr ++ [q]))] from t7); clear hl hg hat t7)
        go_roundw
        case rel => exact ⟨i + 1, s', _, _, E, F, cE, cF, m + 1, by omega, by go_num, rfl, rfl, HML'.out, by omega, OK'.out, HN'.out, HP'.out, S8.out⟩
        case measure => simp [intOf]; omega
  have t1 : decide ((i : Int) < (n1 : Int)) = false := decide_eq_false (by omega)
  have t1' : decide (i < n1) = false := decide_eq_false hin
  have HND := Lib.hid (OK.out.nd 5 _ HN.out.1)
  have hnsm : Ns s l (tk.take m) := by rw [List.take_of_length_le (by rw [← HML.out]; exact Nat.le_refl _)]; exact HN.out
  have HNM := Lib.hid hnsm
  clear hnsm hin
  go_wp2_with fail
  go_loopw [16] (fun t wx => ∃ (c : Nat) (s2 : KS), c ≤ m ∧ t = .int .i64 ((c : Int) - 1) ∧ s2.ok ∧ Ns s2 l (tk.take c) ∧ St w None wx [KR k 1 s2, LisR 3 1 (.slice B m cb) m (ivs tk), LisR 3 1 (.slice D (m + 1) cd) (m + 1) (cvs pr)]) (fun t _ => (intOf t + 1).toNat)
  case atStart => exact ⟨m, s, by omega, by go_num, OK.out, HNM.out, SR.out⟩
  case round =>
  clear HNM
  obtain ⟨c, s2, hc, rfl, hok2, hns2, sx⟩ := hrel
  have OK2 := Lib.hid hok2
  have HN2 := Lib.hid hns2
  have SX := Lib.hid sx
  clear hok2 hns2 sx
  by_cases hc0 : c = 0
  · subst hc0
    have PC := Lib.hid (show Calls Try.prog 10 #[.pointer (some ⟨k, 0, none⟩), .int .i64 5] wr (fun e w' => ∃ C d, e = .returned (.slice C 0 d) ∧ St wr None w' [LisR 3 1 (.slice C 0 d) 0 (ivs [])]) from Held_o SX.out 0 rfl OK2.out (i := 5) (m := ⟨100, []⟩) HN2.out.1)
    go_wp2_with fail
    refine PC.out.mono ?_
    rintro r w4 ⟨C, d, rfl, s4⟩
    have HB4 := Lib.hid (below_then SX.out.below s4.below)
    clear s4
    go_wp2_with fail
    go_ret
    exact ⟨rfl, HB4.out⟩
  obtain ⟨e, rfl⟩ : ∃ e, c = e + 1 := ⟨c - 1, by omega⟩
  obtain ⟨x, hx⟩ : ∃ x, tk[e]? = some x := ⟨_, List.getElem?_eq_getElem (by rw [← HML.out]; omega)⟩
  have HX := Lib.hid hx
  clear hx hc0
  have he1 : ((e + 1 : Nat) : Int) - 1 = (e : Int) := by omega
  rw [he1]
  have t5 : decide (0 ≤ (e : Int)) = true := decide_eq_true (by omega)
  clear he1
  go_wp2_with fail
  go_loopw [17] (fun t wy => ∃ j : Nat, j ≤ e ∧ t = .int .i64 (j : Int) ∧ St w None wy [KR k 1 s2, LisR 3 1 (.slice B m cb) m (ivs tk), LisR 3 1 (.slice D (m + 1) cd) (m + 1) (cvs pr)]) (fun t _ => e - (intOf t).toNat)
  case atStart => exact ⟨0, by omega, rfl, SX.out⟩
  case round =>
  obtain ⟨j, hj, rfl, sy⟩ := hrel
  have SY := Lib.hid sy
  clear sy
  obtain ⟨g1, o1, rfl, hc1⟩ := (SY.out.lis 1 rfl).at_ (by omega)
  by_cases hje : j < e
  · have t6 : decide ((j : Int) < (e : Int)) = true := decide_eq_true (by omega)
    have t6' : decide (j < e) = true := decide_eq_true hje
    obtain ⟨y, hy⟩ : ∃ y, tk[j]? = some y := ⟨_, List.getElem?_eq_getElem (by rw [← HML.out]; omega)⟩
    have a1 := hc1 j _ (ivs_get hy)
    have j0 : (0 : Int) ≤ (j : Int) := by omega
    have j1 : (j : Int) < (m : Int) := by omega
    have BC := Lib.hid (show Calls Try.prog 15 #[.pointer (some ⟨k, 0, none⟩), .int .i64 5, .int .i64 (y : Int)] wr _ from Back_o SY.out 0 rfl OK2.out (ns_state HN2.out HND.out HX.out hje hy))
    clear hy hc1
    go_wp2_with fail
    refine BC.out.mono ?_
    rintro r w4 ⟨rfl, s4⟩
    have S4 := Lib.hid (show St w None w4 [KR k 1 s2, LisR 3 1 (.slice (some ⟨g1, o1, none⟩) m cb) m (ivs tk), LisR 3 1 (.slice D (m + 1) cd) (m + 1) (cvs pr)] from s4)
    clear BC s4 a1
    go_wp2_with fail
    go_roundw
    case rel => exact ⟨j + 1, by omega, by go_num, S4.out⟩
    case measure => simp [intOf]; omega
  have t6 : decide ((j : Int) < (e : Int)) = false := decide_eq_false (by omega)
  have t6' : decide (j < e) = false := decide_eq_false hje
  have a1 := hc1 e _ (ivs_get HX.out)
  have e0 : (0 : Int) ≤ (e : Int) := by omega
  have e1 : (e : Int) < (m : Int) := by omega
  obtain ⟨s3, hB, hns3⟩ := ns_back HN2.out HX.out
  have OK3 := Lib.hid (hB.ok OK2.out)
  have HN3 := Lib.hid hns3
  have BC := Lib.hid (show Calls Try.prog 15 #[.pointer (some ⟨k, 0, none⟩), .int .i64 5, .int .i64 (x : Int)] wr _ from Back_o SY.out 0 rfl OK2.out hB)
  clear hB hns3 hc1 hje
  go_wp2_with fail
  refine BC.out.mono ?_
  rintro r w4 ⟨rfl, s4⟩
  have S4 := Lib.hid (show St w None w4 [KR k 1 s3, LisR 3 1 (.slice (some ⟨g1, o1, none⟩) m cb) m (ivs tk), LisR 3 1 (.slice D (m + 1) cd) (m + 1) (cvs pr)] from s4)
  obtain ⟨q, hq⟩ : ∃ q, q = (KS.new l).low (tk.take e) 100 := ⟨_, rfl⟩
  have hpq : pr[e]? = some q := by rw [hq]; exact HP.out.2 e (by rw [← HML.out]; omega)
  have PC := Lib.hid (show Calls Try.prog 13 #[.pointer (some ⟨k, 0, none⟩), .int .i64 5] w4 (fun e w' => e = .returned (.tuple #[.int .i64 q, .int .i64 0]) ∧ w4 = w') from (by
    have h : s3.cur ⟨100, tk.take e⟩ = q := by rw [hq]; exact low_same HN3.out.2.2 _ _
    rw [← h]; exact Prio_o S4.out 0 rfl OK3.out (i := 5) HN3.out.1))
  clear BC s4 a1 hq
  go_wp2_with fail
  refine PC.out.mono ?_
  rintro r w5 ⟨rfl, rfl⟩
  obtain ⟨g2, o2, rfl, hc2⟩ := (S4.out.lis 2 rfl).at_ (by omega)
  have a2 := hc2 e _ (cvs_get hpq)
  have e3 : (e : Int) < ((m + 1 : Nat) : Int) := by omega
  have e4 : (e : Int) < (m : Int) + 1 := by omega
  have z3 : (q != q) = false := by simp
  clear hpq hc2 PC
  go_wp2_with fail
  go_roundw
  case rel => exact ⟨e, s3, by omega, by go_num, OK3.out, HN3.out, S4.out⟩
  case measure => simp [intOf]

set_option maxRecDepth 100000 in
theorem lifted (os : Os) (started : os.Started) (H : Type) (enc : TypeId × Value → H) :
    ReturnsInHanded {} Try.checked os 4 .any (Rows.lockNestsSpec.pre6 enc Try.prog Try.f4 Rows.lockNestsRow.domain false) (Rows.lockNestsSpec.post enc Try.prog Try.f4 false true false false) := by
  refine law_lifted (C := Try.checked) (tb := 4) own started (by kernel_rfl) Try.func4
    (ChangeSpec.witness6 (enc := enc) (C := Try.checked) false ⟨#[], #[.slice none 0 0, .slice none 0 0], []⟩ 8 (by kernel_rfl) (by kernel_rfl) (by kernel_rfl) (by kernel_rfl)) laid (by kernel_rfl) (by kernel_rfl) Try.underlying4 rfl ?_
  intro W base args ds ps hval0 hA0 hlt
  have hval : ∀ (j : Nat) t v, Try.f4.params[j]? = some t → args[j]? = some v → Value.okWide Try.prog W .any base t v := hval0
  have hA : DataW.TrodAll enc Try.prog W 0 (fun _ => true) true Try.f4.params.toList args.toList ds ps := hA0
  clear hA0 hval0
  rw [Try.params4] at hA hval
  obtain ⟨v0, vs0, d0, ds0, p0, q0, hargs, rfl, rfl, h0, r0⟩ := trodAll_cons hA
  obtain ⟨v1, vs1, d1, ds1, p1, q1, rfl, rfl, rfl, h1, r1⟩ := trodAll_cons r0
  obtain ⟨rfl, rfl, rfl⟩ := trodAll_nil r1
  obtain rfl : args = #[v0, v1] := by cases args; simp_all
  obtain ⟨A0, n0, cap0, V0, rfl, le0, mx0, rd0, fl0⟩ := open_slice_flat (m := 1) Try.underlying22 Try.underlying42 (by kernel_rfl) rfl (by decide) (fun i f h => by match i, h with | 0, h => cases h; exact ⟨rfl, by kernel_rfl⟩ | n + 1, h => simp at h) (hval 0 22 v0 rfl rfl) h0
  have f0_0 := (fl0 0 _ rfl).1 _ Try.underlying3
  obtain ⟨A1, n1, cap1, f1, rfl, le1, mx1, wf1, rd1⟩ := open_slice_ints Try.underlying23 Try.underlying5 (by kernel_rfl) (hval 1 23 v1 rfl rfl) h1
  refine ⟨⟨rfl, rfl, rfl⟩, ?_⟩
  exact walk A0 n0 cap0 V0 A1 n1 cap1 f1 W (by omega) (by omega) rd0 (fun j hj => by
    obtain ⟨z, h0, -⟩ := f0_0 j hj
    exact ⟨z, h0⟩) (fun j => bounds_u8 (wf1 j)) rd1

theorem over : Rows.lockNestsRow.holds Try.pinned (OpenSpec.ofChange Rows.lockNestsSpec) :=
  OpenClaim.holds_of_wide 4 Try.f4 rfl rfl rfl rfl rfl rfl rfl ⟨rfl, rfl, rfl, rfl, rfl⟩ rfl rfl rfl rfl rfl (by kernel_rfl) Try.func4 (by kernel_rfl)
    (of_decide_eq_true (by kernel_rfl)) (by unfold Func.isWrapper; first | (rw [if_pos (by decide +kernel)]; kernel_rfl) | (rw [if_neg (by decide +kernel)]; exact ⟨rfl, rfl⟩))
    (fun os started H enc _ => lifted os started H enc)
theorem proved : Rows.LockNestsSaid := over
#print axioms proved
end Go.Proofs.Ytpfodchdpafofaa.lockNests
