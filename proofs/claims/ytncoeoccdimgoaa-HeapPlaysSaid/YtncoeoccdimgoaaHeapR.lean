/- Layer 3: the document's own heap. -/
import Derived.Test.YtncoeoccdimgoaaHeapA
namespace Go.Proofs.Ytncoeoccdimgoaa
open Go.RowKit
set_option linter.unusedVariables false
set_option maxRecDepth 100000
set_option maxHeartbeats 1000000
theorem Try.infoHB : (Try.prog.info? 4).map (fun i => (i.zero, i.size, i.bytes)) = some (some (.bool false), 1, 1) := by kernel_rfl
theorem Try.infoHU : (Try.prog.info? 30).map (fun i => (i.zero, i.size, i.bytes)) = some (some (.int .u64 0), 1, 8) := by kernel_rfl
def RHL (r ib kb n : Nat) (M : HM) (K : Nat → Int) : List Res :=
  [BlkR r 44 #[.slice (some ⟨ib, 0, none⟩) n n, .slice (some ⟨kb, 0, none⟩) n n], ArrR ib 4 n (fun i => .bool (M i).isSome), ArrR kb 30 n (fun i => .int .u64 (K i))]
def RHR (r n : Nat) (M : HM) : Res := fun w S => ∃ ib kb K, (n ≤ 1000 ∧ (∀ i x, M i = some x → i < n ∧ K i = x)) ∧ Star (RHL r ib kb n M K) w S
theorem RHR.ok (r n : Nat) (M : HM) : Ok (RHR r n M) :=
  ⟨fun ⟨ib, kb, K, _, h⟩ b hb => (Star.ok _).lt h b hb, fun ⟨ib, kb, K, hk, h⟩ hh => ⟨ib, kb, K, hk, (Star.ok _).frame h hh⟩⟩
def updk (K : Nat → Int) (i : Nat) (x : Int) : Nat → Int := fun j => if j = i then x else K j
theorem Star.invol {w : World} {S : Nat → Prop} {L : List Res} (h : Star L w S) (σ : Nat → Nat) (hσ : ∀ i, σ (σ i) = i) (M : List Res) (hM : ∀ i : Nat, M[i]? = L[σ i]?) : Star M w S := by
  obtain ⟨F, f1, f2, f3, f4⟩ := h
  refine ⟨fun i b => F (σ i) b, fun i R hR => f1 _ R (by rw [← hM]; exact hR), fun i j b hi hj => by have := f2 _ _ b hi hj; rw [← hσ i, this, hσ j], fun i b hi => ?_, fun b => ⟨fun hb => ?_, fun ⟨i, hi⟩ => (f4 b).2 ⟨_, hi⟩⟩⟩
  · have h1 := f3 _ b hi
    have h2 := hM i
    rw [List.getElem?_eq_getElem h1] at h2
    exact (List.getElem?_eq_some_iff.1 h2).1
  · obtain ⟨i, hi⟩ := (f4 b).1 hb
    exact ⟨σ i, by dsimp only; rwa [hσ]⟩
theorem star_swap12 {w : World} {S : Nat → Prop} {A B C : Res} (h : Star [A, B, C] w S) : Star [A, C, B] w S :=
  h.invol (fun | 0 => 0 | 1 => 2 | 2 => 1 | n + 3 => n + 3) (fun i => by match i with | 0 => rfl | 1 => rfl | 2 => rfl | n + 3 => rfl) _ (fun i => by match i with | 0 => rfl | 1 => rfl | 2 => rfl | n + 3 => rfl)
section
variable {w0 w : World} {S S0 : Nat → Prop} {L : List Res} {r n : Nat} {M M' : HM}
theorem two_made (H : St w0 S0 w L) (n : Nat) (tx ty : TypeId) (x y : Value) (t : TypeId) (cs : Array Value) :
    St w0 S0 ((((w.alloc (.cells (madeCells #[x] n) tx)).alloc (.cells (madeCells #[y] n) ty)).alloc (.cells cs t)).drew)
      (L ++ [ArrR w.heap.size tx n (fun _ => x), ArrR (w.heap.size + 1) ty n (fun _ => y), BlkR (w.heap.size + 1 + 1) t cs]) := by
  have h := (((H.made_row tx n x).made_row ty n y).box t cs).drew
  simpa [List.append_assoc] using h
theorem RNew_o (H : St w0 S0 w L) (h0 : 1 ≤ n) (h1 : n ≤ 1000) :
    Calls Try.prog 11 #[.int .i64 n] w fun e w' => ∃ p, e = .returned (.pointer (some ⟨p, 0, none⟩)) ∧ St w0 S0 w' (L ++ [RHR p n (fun _ => none)]) := by
  obtain ⟨iB, hiB, hzB, hsB, hbB⟩ := info3h Try.infoHB
  obtain ⟨iU, hiU, hzU, hsU, hbU⟩ := info3h Try.infoHU
  have mk1 := fun W => run_make_rowN (P := Try.prog) 41 4 iB (.bool false) Try.underlying41 hiB hzB rfl hsB .i64 .i64 n (by rw [hbB]; omega) (by omega) W
  have mk2 := fun W => run_make_rowN (P := Try.prog) 42 30 iU (.int .u64 0) Try.underlying42 hiU hzU rfl hsU .i64 .i64 n (by rw [hbU]; omega) (by omega) W
  have A1 := Lib.hid (two_made H n 4 30 (.bool false) (.int .u64 0) 44 #[.slice (some ⟨w.heap.size, 0, none⟩) n n, .slice (some ⟨w.heap.size + 1, 0, none⟩) n n])
  have A2 := Lib.hid (two_made H n 30 4 (.int .u64 0) (.bool false) 44 #[.slice (some ⟨w.heap.size + 1, 0, none⟩) n n, .slice (some ⟨w.heap.size, 0, none⟩) n n])
  have F1 := Lib.hid (A1.out.fold (R := RHR (w.heap.size + 1 + 1) n (fun _ => none)) (RHR.ok _ _ _) fun S hh => ⟨w.heap.size, w.heap.size + 1, fun _ => 0, ⟨h1, fun i x h => by cases h⟩, Star.comm (A := [_, _]) (B := [_]) hh⟩)
  have F2 := Lib.hid (A2.out.fold (R := RHR (w.heap.size + 1 + 1) n (fun _ => none)) (RHR.ok _ _ _) fun S hh => ⟨w.heap.size + 1, w.heap.size, fun _ => 0, ⟨h1, fun i x h => by cases h⟩, star_swap12 (Star.comm (A := [_, _]) (B := [_]) hh)⟩)
  clear A1 A2 H
  go_enter Try.func11, Try.ntmps11
  go_wp2_with fail
  go_region
  all_goals
    clear mk1 mk2
    go_wp2_with fail
    go_ret
    first
    | exact ⟨_, rfl, F1.out⟩
    | exact ⟨_, rfl, F2.out⟩
/-! ### What it tells and does -/
theorem RPut_c (h : RHR r n M w S) {id x f : Int} (hP : HPutP n M id x f M') :
    Calls Try.prog 13 #[.pointer (some ⟨r, 0, none⟩), .int .i64 id, .int .u64 x] w fun e w' => e = .returned (.int .i64 f) ∧ ∃ S', RHR r n M' w' S' ∧ Did S S' w w' := by
  obtain ⟨ib, kb, K, hk, hs⟩ := h
  have s0 := St.start hs
  obtain ⟨c0, c1⟩ := (s0.blk 0 rfl).two
  have S0' := Lib.hid s0
  have HK := Lib.hid hk.2
  have hn := hk.1
  rcases hP with ⟨hno, rfl, rfl⟩ | ⟨i, hi, rfl, rfl, rfl⟩
  · by_cases h0 : 0 ≤ id
    · have d0 : decide (id < 0) = false := decide_eq_false (by omega)
      have d1 : decide ((n : Int) ≤ id) = true := decide_eq_true (by omega)
      clear s0 hs hk hno h0
      go_enter Try.func13, Try.ntmps13
      go_wp2_with fail
      go_ret
      exact ⟨rfl, S0'.out.fin fun S' h => ⟨ib, kb, K, ⟨hn, HK.out⟩, h⟩⟩
    · have d0 : decide (id < 0) = true := decide_eq_true (by omega)
      clear s0 hs hk hno h0
      go_enter Try.func13, Try.ntmps13
      go_wp2_with fail
      go_ret
      exact ⟨rfl, S0'.out.fin fun S' h => ⟨ib, kb, K, ⟨hn, HK.out⟩, h⟩⟩
  · have d0 : decide ((i : Int) < 0) = false := decide_eq_false (by omega)
    have d1 : decide ((n : Int) ≤ (i : Int)) = false := decide_eq_false (by omega)
    have d1' : decide (n ≤ i) = false := decide_eq_false (by omega)
    have c2 := s0.arr_cell 1 rfl hi
    have f2 := s0.arr_frozen 1 rfl i
    have s1 := s0.arr_set 1 rfl hi (.bool true)
    have k1 := (s1.blk 0 rfl).two.2
    have c3 := s1.arr_cell 2 rfl hi
    have f3 := s1.arr_frozen 2 rfl i
    have s2 := s1.arr_set 2 rfl hi (.int .u64 x)
    have s3 := (s2.arr_like 1 rfl (V' := fun j => .bool ((M.put i x) j).isSome) (fun j hj => by by_cases e : j = i <;> simp [HM.put, e])).arr_like 2 rfl (V' := fun j => .int .u64 (updk K i x j)) (fun j hj => by by_cases e : j = i <;> simp [updk, e])
    have S3 := Lib.hid s3
    have HK3 := Lib.hid (show ∀ j y, (M.put i x) j = some y → j < n ∧ updk K i x j = y from fun j y hj => by
      rcases HM.put_some.1 hj with ⟨rfl, rfl⟩ | ⟨h1, h2⟩
      · exact ⟨hi, by simp [updk]⟩
      · exact ⟨(HK.out j y h2).1, by simp [updk, h1]; exact (HK.out j y h2).2⟩)
    have i0 : (0 : Int) ≤ (i : Int) := by omega
    generalize (M i).isSome = bi at *
    clear s0 hs hk s1 s2 s3
    go_enter Try.func13, Try.ntmps13
    go_wp2_with fail
    go_ret
    exact ⟨rfl, S3.out.fin fun S' h => ⟨ib, kb, _, ⟨hn, HK3.out⟩, h⟩⟩
/-- Is it a member? -/
def isM (M : HM) (id : Int) : Bool := decide (0 ≤ id) && (M id.toNat).isSome
theorem Is_c (h : RHR r n M w S) (id : Int) {b : Bool} (hb : b = isM M id) :
    Calls Try.prog 22 #[.pointer (some ⟨r, 0, none⟩), .int .i64 id] w fun e w' => e = .returned (.bool b) ∧ w = w' := by
  obtain ⟨ib, kb, K, hk, hs⟩ := h
  have s0 := St.start hs
  obtain ⟨c0, c1⟩ := (s0.blk 0 rfl).two
  have hn := hk.1
  by_cases h0 : 0 ≤ id
  · have d0 : decide (0 ≤ id) = true := decide_eq_true h0
    obtain ⟨i, rfl⟩ := Int.eq_ofNat_of_zero_le h0
    by_cases hi : i < n
    · have d1 : decide ((i : Int) < (n : Int)) = true := decide_eq_true (by omega)
      have d1' : decide (i < n) = true := decide_eq_true hi
      have c2 := s0.arr_cell 1 rfl hi
      obtain rfl : b = (M i).isSome := by rw [hb]; simp [isM]
      generalize (M i).isSome = bi at *
      clear s0 hs hk hb
      go_enter Try.func22, Try.ntmps22
      go_wp2_with fail
      go_ret
      exact ⟨rfl, rfl⟩
    · have d1 : decide ((i : Int) < (n : Int)) = false := decide_eq_false (by omega)
      have d1' : decide (i < n) = false := decide_eq_false hi
      obtain rfl : b = false := by
        rw [hb]
        cases hm : M i with
        | none => simp [isM, hm]
        | some y => have := (hk.2 i y hm).1; omega
      clear s0 hs hk hb
      go_enter Try.func22, Try.ntmps22
      go_wp2_with fail
      go_ret
      exact ⟨rfl, rfl⟩
  · have d0 : decide (0 ≤ id) = false := decide_eq_false h0
    obtain rfl : b = false := by rw [hb]; simp [isM, h0]
    clear s0 hs hk hb
    go_enter Try.func22, Try.ntmps22
    go_wp2_with fail
    go_ret
    exact ⟨rfl, rfl⟩
theorem RDrop_c (h : RHR r n M w S) {id f : Int} (hP : HDropP M id f M') :
    Calls Try.prog 15 #[.pointer (some ⟨r, 0, none⟩), .int .i64 id] w fun e w' => e = .returned (.int .i64 f) ∧ ∃ S', RHR r n M' w' S' ∧ Did S S' w w' := by
  have IS := Lib.hid (fun b hb => Is_c h id (b := b) hb)
  obtain ⟨ib, kb, K, hk, hs⟩ := h
  have s0 := St.start hs
  obtain ⟨c0, c1⟩ := (s0.blk 0 rfl).two
  have S0' := Lib.hid s0
  have HK := Lib.hid hk.2
  have hn := hk.1
  rcases hP with ⟨hno, rfl, rfl⟩ | ⟨i, x, rfl, hm, rfl, rfl⟩
  · have I1 := Lib.hid (IS.out false (by
      by_cases h0 : 0 ≤ id
      · simp [isM, h0, hno id.toNat (by omega)]
      · simp [isM, h0]))
    clear s0 hs hk hno IS
    go_enter Try.func15, Try.ntmps15
    go_wp2_with fail
    refine I1.out.mono ?_
    rintro e w1 ⟨rfl, rfl⟩
    go_wp2_with fail
    go_ret
    exact ⟨rfl, S0'.out.fin fun S' h => ⟨ib, kb, K, ⟨hn, HK.out⟩, h⟩⟩
  · have hi := (hk.2 i x hm).1
    have I1 := Lib.hid (IS.out true (by simp [isM, hm]))
    have c2 := s0.arr_cell 1 rfl hi
    have f2 := s0.arr_frozen 1 rfl i
    have s3 := (s0.arr_set 1 rfl hi (.bool false)).arr_like 1 rfl (V' := fun j => .bool ((M.del i) j).isSome) (fun j hj => by by_cases e : j = i <;> simp [HM.del, e])
    have S3 := Lib.hid s3
    have HK3 := Lib.hid (show ∀ j y, (M.del i) j = some y → j < n ∧ K j = y from fun j y hj => HK.out j y (HM.del_some.1 hj).2)
    have i1 : (i : Int) < (n : Int) := by omega
    generalize (M i).isSome = bi at *
    clear s0 hs hk s3 IS hm
    go_enter Try.func15, Try.ntmps15
    go_wp2_with fail
    refine I1.out.mono ?_
    rintro e w1 ⟨rfl, rfl⟩
    go_wp2_with fail
    go_ret
    exact ⟨rfl, S3.out.fin fun S' h => ⟨ib, kb, _, ⟨hn, HK3.out⟩, h⟩⟩
theorem RLen_c (h : RHR r n M w S) {c : Nat} (hc : c = M.cnt n) :
    Calls Try.prog 21 #[.pointer (some ⟨r, 0, none⟩)] w fun e w' => e = .returned (.int .i64 (c : Nat)) ∧ w = w' := by
  obtain ⟨ib, kb, K, hk, hs⟩ := h
  have s0 := St.start hs
  obtain ⟨c0, c1⟩ := (s0.blk 0 rfl).two
  have S0' := Lib.hid s0
  have hn := hk.1
  have HC := Lib.hid hc
  clear s0 hs hk hc
  go_enter Try.func21, Try.ntmps21
  go_wp2_with fail
  go_loop [3, 4] (fun m i => ∃ k : Nat, k ≤ n ∧ i = .int .i64 k ∧ m = .int .i64 (M.cnt k : Nat)) (fun _ i => n - (intOf i).toNat)
  case atStart => exact ⟨0, by omega, rfl, rfl⟩
  case round =>
  obtain ⟨k, hkn, rfl, rfl⟩ := hrel
  have hcl := M.cnt_le k
  have HS := Lib.hid (show M.cnt (k + 1) = M.cnt k + (if (M k).isSome = true then 1 else 0) from rfl)
  by_cases hlt2 : k < n
  · have d1 : decide ((k : Int) < (n : Int)) = true := decide_eq_true (by omega)
    have d1' : decide (k < n) = true := decide_eq_true hlt2
    have c2 := S0'.out.arr_cell 1 rfl hlt2
    cases hm : (M k).isSome with
    | true =>
      rw [hm] at c2 HS
      clear hm
      generalize M.cnt k = q at *
      go_wp2_with fail
      go_round
      case rel => exact ⟨k + 1, by omega, by go_num, by rw [HS.out]; go_num⟩
      case measure => simp [intOf]; omega
    | false =>
      rw [hm] at c2 HS
      clear hm
      generalize M.cnt k = q at *
      go_wp2_with fail
      go_round
      case rel => exact ⟨k + 1, by omega, by go_num, by rw [HS.out]; first | rfl | simp⟩
      case measure => simp [intOf]; omega
  · obtain rfl : k = n := by omega
    have d1 : decide ((k : Int) < (k : Int)) = false := decide_eq_false (by omega)
    have d1' : decide (k < k) = false := decide_eq_false (by omega)
    rw [← HC.out]
    clear HC HS
    go_wp2_with fail
    go_ret
    exact ⟨rfl, rfl⟩
/-- The first of those that were seen. -/
def BestP (M : HM) (K : Nat → Int) (k : Nat) (best : Int) : Prop := (best = -1 ∧ ∀ i, i < k → M i = none) ∨ ∃ i : Nat, best = (i : Int) ∧ i < k ∧ M i = some (K i) ∧ ∀ j, j < k → ∀ y, M j = some y → ¬ hlt (j, y) (i, K i)
theorem RFirst_c (h : RHR r n M w S) {id x f : Int} (hf : FstP M id x f) :
    Calls Try.prog 17 #[.pointer (some ⟨r, 0, none⟩)] w fun e w' => e = .returned (.tuple #[.int .i64 id, .int .u64 x, .int .i64 f]) ∧ Below w.heap.size w w' := by
  obtain ⟨ib, kb, K, hk, hs⟩ := h
  have s0 := St.start hs
  have S0' := Lib.hid s0
  have hn := hk.1
  have HK := Lib.hid hk.2
  have HF := Lib.hid hf
  have cr := (s0.blk 0 rfl).two
  obtain ⟨cr0, cr1⟩ := cr
  clear s0 hs hk hf
  go_enter Try.func17, Try.ntmps17
  go_wp2_with fail
  go_loopw [5, 6] (fun b i wr => ∃ (k : Nat) (best : Int), k ≤ n ∧ i = .int .i64 k ∧ b = .int .i64 best ∧ BestP M K k best ∧ Below w.heap.size w wr ∧ St w S wr (RHL r ib kb n M K)) (fun _ i _ => n - (intOf i).toNat)
  case atStart => exact ⟨0, -1, by omega, rfl, rfl, Or.inl ⟨rfl, fun i hi => by omega⟩, Below.refl _ _, S0'.out⟩
  case round =>
  clear S0' cr0 cr1
  obtain ⟨k, best, hkn, rfl, rfl, hB, hbel, sr⟩ := hrel
  obtain ⟨c0, c1⟩ := (sr.blk 0 rfl).two
  have SR := Lib.hid sr
  have BL := Lib.hid hbel
  have HB := Lib.hid hB
  by_cases hlt2 : k < n
  · have d1 : decide ((k : Int) < (n : Int)) = true := decide_eq_true (by omega)
    have d1' : decide (k < n) = true := decide_eq_true hlt2
    have k0 : (0 : Int) ≤ (k : Int) := by omega
    have k1 : (k : Int) < (n : Int) := by omega
    have c2 := sr.arr_cell 1 rfl hlt2
    have c3 := sr.arr_cell 2 rfl hlt2
    cases hm : M k with
    | none =>
      have HB2 := Lib.hid (show BestP M K (k + 1) best from by
        rcases hB with ⟨h1, h2⟩ | ⟨i, h1, h2, h3, h4⟩
        · refine Or.inl ⟨h1, fun i hi => ?_⟩
          by_cases e : i = k
          · rw [e]; exact hm
          · exact h2 i (by omega)
        · refine Or.inr ⟨i, h1, by omega, h3, fun j hj y hy => ?_⟩
          by_cases e : j = k
          · subst e; rw [hm] at hy; cases hy
          · exact h4 j (by omega) y hy)
      rw [hm] at c2
      have c2 : wr.cell? ⟨ib, k, none⟩ = some (.bool false) := c2
      clear hm hB sr hbel
      generalize K k = q at *
      go_wp2_with fail
      go_quiet (fail)
      go_wp2_with fail
      go_roundw
      case rel => exact ⟨k + 1, best, by omega, by go_num, rfl, HB2.out, below_drewN BL.out _, SR.out.drewN _⟩
      case measure => simp [intOf]; omega
    | some y =>
      have hy := (HK.out k y hm).2
      subst hy
      rw [hm] at c2
      have c2 : wr.cell? ⟨ib, k, none⟩ = some (.bool true) := c2
      rcases hB with ⟨rfl, h2⟩ | ⟨i, rfl, h2, h3, h4⟩
      · have HB2 := Lib.hid (show BestP M K (k + 1) (k : Int) from Or.inr ⟨k, rfl, by omega, hm, fun j hj y hy => by
          by_cases e : j = k
          · subst e; rw [hm] at hy; injection hy with hy; subst hy; exact hlt_irr _
          · rw [h2 j (by omega)] at hy; cases hy⟩)
        clear hm h2 sr hbel HB
        generalize K k = q at *
        go_wp2_with fail
        go_quiet (fail)
        go_wp2_with fail
        go_roundw
        case rel => exact ⟨k + 1, (k : Int), by omega, by go_num, rfl, HB2.out, below_drewN BL.out _, SR.out.drewN _⟩
        case measure => simp [intOf]; omega
      · have c4 := sr.arr_cell 2 rfl (show i < n by omega)
        have d3 : decide ((i : Int) < 0) = false := decide_eq_false (by omega)
        have i0 : (0 : Int) ≤ (i : Int) := by omega
        have i1 : (i : Int) < (n : Int) := by omega
        by_cases hlk : K k < K i
        · have HB2 := Lib.hid (show BestP M K (k + 1) (k : Int) from Or.inr ⟨k, rfl, by omega, hm, fun j hj y hy => by
            by_cases e : j = k
            · subst e; rw [hm] at hy; injection hy with hy; subst hy; exact hlt_irr _
            · have := h4 j (by omega) y hy
              unfold hlt at this ⊢
              dsimp only at this ⊢
              omega⟩)
          have d4 : decide (K k < K i) = true := decide_eq_true hlk
          clear hm h3 h4 sr hbel HB hlk
          generalize K k = q at *
          generalize K i = qi at *
          go_wp2_with fail
          go_quiet (fail)
          go_wp2_with fail
          go_roundw
          case rel => exact ⟨k + 1, (k : Int), by omega, by go_num, rfl, HB2.out, below_drewN BL.out _, SR.out.drewN _⟩
          case measure => simp [intOf]; omega
        · have HB2 := Lib.hid (show BestP M K (k + 1) (i : Int) from Or.inr ⟨i, rfl, by omega, h3, fun j hj y hy => by
            by_cases e : j = k
            · subst e; rw [hm] at hy; injection hy with hy; subst hy
              unfold hlt; dsimp only; omega
            · exact h4 j (by omega) y hy⟩)
          have d4 : decide (K k < K i) = false := decide_eq_false hlk
          clear hm h3 h4 sr hbel HB hlk
          generalize K k = q at *
          generalize K i = qi at *
          go_wp2_with fail
          go_quiet (fail)
          go_wp2_with fail
          go_roundw
          case rel => exact ⟨k + 1, (i : Int), by omega, by go_num, rfl, HB2.out, below_drewN BL.out _, SR.out.drewN _⟩
          case measure => simp [intOf]; omega
  · obtain rfl : k = n := by omega
    have d1 : decide ((k : Int) < (k : Int)) = false := decide_eq_false (by omega)
    have d1' : decide (k < k) = false := decide_eq_false (by omega)
    rcases hB with ⟨rfl, h2⟩ | ⟨i, rfl, h2, h3, h4⟩
    · have hnone : ∀ j, M j = none := fun j => by
        cases hm : M j with
        | none => rfl
        | some y => have := (HK.out j y hm).1; rw [h2 j this] at hm; cases hm
      obtain ⟨rfl, rfl, rfl⟩ := HF.out.uniq (Or.inl ⟨hnone, rfl, rfl, rfl⟩)
      clear hnone
      clear h2 sr hbel HB SR HF
      go_wp2_with fail
      refine bodyPost_ret (v := .tuple #[.int .i64 0, .int .u64 0, .int .i64 5]) ?_ rfl ⟨rfl, BL.out⟩
      simp [results, Try.results17, go_sem]
    · obtain ⟨rfl, rfl, rfl⟩ := HF.out.uniq (Or.inr ⟨i, h3, fun j y hy => h4 j (HK.out j y hy).1 y hy, rfl, rfl⟩)
      have c4 := sr.arr_cell 2 rfl h2
      have d3 : decide ((i : Int) < 0) = false := decide_eq_false (by omega)
      have i0 : (0 : Int) ≤ (i : Int) := by omega
      have i1 : (i : Int) < (k : Int) := by omega
      clear h3 h4 sr hbel HB SR HF
      go_wp2_with fail
      go_quiet (fail)
      go_wp2_with fail
      refine bodyPost_ret (v := .tuple #[.int .i64 (i : Nat), .int .u64 (K i), .int .i64 0]) ?_ rfl ⟨rfl, below_drewN BL.out _⟩
      simp [results, Try.results17, go_sem]
/-! ### Among other things -/
theorem RPut_o (H : St w0 S0 w L) (i : Nat) (hi : L[i]? = some (RHR r n M)) {id x f : Int} (hP : HPutP n M id x f M') :
    Calls Try.prog 13 #[.pointer (some ⟨r, 0, none⟩), .int .i64 id, .int .u64 x] w fun e w' => e = .returned (.int .i64 f) ∧ St w0 S0 w' (L.set i (RHR r n M')) :=
  St.call (fun w S s => RPut_c s hP) (RHR.ok _ _ _) H i hi
theorem RDrop_o (H : St w0 S0 w L) (i : Nat) (hi : L[i]? = some (RHR r n M)) {id f : Int} (hP : HDropP M id f M') :
    Calls Try.prog 15 #[.pointer (some ⟨r, 0, none⟩), .int .i64 id] w fun e w' => e = .returned (.int .i64 f) ∧ St w0 S0 w' (L.set i (RHR r n M')) :=
  St.call (fun w S s => RDrop_c s hP) (RHR.ok _ _ _) H i hi
theorem RFirst_o (H : St w0 S0 w L) (i : Nat) (hi : L[i]? = some (RHR r n M)) {id x f : Int} (hP : FstP M id x f) :
    Calls Try.prog 17 #[.pointer (some ⟨r, 0, none⟩)] w fun e w' => e = .returned (.tuple #[.int .i64 id, .int .u64 x, .int .i64 f]) ∧ St w0 S0 w' L := by
  obtain ⟨S, hs⟩ := H.get i hi
  exact looks (RFirst_c hs hP) H
end
end Go.Proofs.Ytncoeoccdimgoaa
