/- Layer 3: putting and removing. -/
import Derived.Test.YtncoeoccdimgoaaHeapH
namespace Go.Proofs.Ytncoeoccdimgoaa
open Go.RowKit
set_option linter.unusedVariables false
set_option maxRecDepth 100000
set_option maxHeartbeats 1000000
theorem grid_take {k m q : Nat} (V : Nat → Nat → Value) (h : m ≤ k) : (grid k q V).take (m * q) = grid m q V := by
  unfold grid
  rw [← List.map_take, List.take_range, Nat.min_eq_left (Nat.mul_le_mul_right q h)]
theorem updm_updm (a : Nat → Mem) (k : Nat) (x y : Mem) : updm (updm a k x) k y = updm a k y := funext fun i => by by_cases e : i = k <;> simp [updm, e]
/-- What Put does. -/
def HPutP (n : Nat) (M : HM) (id x f : Int) (M' : HM) : Prop := (¬ (0 ≤ id ∧ id < n) ∧ f = 1 ∧ M' = M) ∨ ∃ i : Nat, i < n ∧ id = (i : Int) ∧ f = 0 ∧ M' = M.put i x
theorem hputP_ex (n : Nat) (M : HM) (id x : Int) : ∃ f M', HPutP n M id x f M' := by
  by_cases h : 0 ≤ id ∧ id < n
  · exact ⟨0, _, Or.inr ⟨id.toNat, by omega, by omega, rfl, rfl⟩⟩
  · exact ⟨1, _, Or.inl ⟨h, rfl, rfl⟩⟩
/-- What Drop does. -/
def HDropP (M : HM) (id f : Int) (M' : HM) : Prop := ((∀ i : Nat, id = (i : Int) → M i = none) ∧ f = 6 ∧ M' = M) ∨ ∃ (i : Nat) (x : Int), id = (i : Int) ∧ M i = some x ∧ f = 0 ∧ M' = M.del i
theorem hdropP_ex (M : HM) (id : Int) : ∃ f M', HDropP M id f M' := by
  by_cases h0 : 0 ≤ id
  · obtain ⟨i, rfl⟩ := Int.eq_ofNat_of_zero_le h0
    cases hm : M i with
    | none =>
      refine ⟨6, M, Or.inl ⟨fun j hj => ?_, rfl, rfl⟩⟩
      obtain rfl : i = j := by omega
      exact hm
    | some x => exact ⟨0, _, Or.inr ⟨i, x, rfl, hm, rfl, rfl⟩⟩
  · exact ⟨6, M, Or.inl ⟨fun j hj => by omega, rfl, rfl⟩⟩
/-- What Take does. -/
def HTakeP (M : HM) (id x f : Int) (M' : HM) : Prop := FstP M id x f ∧ ((f = 5 ∧ M' = M) ∨ (f = 0 ∧ M' = M.del id.toNat))
theorem htakeP_ex {M : HM} {id x f : Int} (h : FstP M id x f) : ∃ M', HTakeP M id x f M' := by
  rcases h with ⟨h1, h2, h3, h4⟩ | ⟨i, h1, h2, h3, h4⟩
  · exact ⟨M, Or.inl ⟨h1, h2, h3, h4⟩, Or.inl ⟨h4, rfl⟩⟩
  · exact ⟨_, Or.inr ⟨i, h1, h2, h3, h4⟩, Or.inr ⟨h4, rfl⟩⟩
section
variable {w0 w : World} {S S0 : Nat → Prop} {N L : List Res} {h c pb n k : Nat} {A : Option Addr} {a : Nat → Mem} {pl : Nat → Int} {M M' : HM}
theorem settle_o {b off : Nat} (H : St w0 S0 w L) (q : Nat) (hq : L[q]? = some (HSR h b off c pb n k a)) {p : Nat} (hp : p < k) (hk : k ≤ n) (hn : n ≤ 1000) (hu : Up a k p) :
    Calls Try.prog 25 #[.pointer (some ⟨h, 0, none⟩), .int .i64 (p : Nat)] w fun e w' => ∃ a', (e = .returned (.tuple #[]) ∧ Hp a' k ∧ Keep a a' k) ∧ St w0 S0 w' (L.set q (HSR h b off c pb n k a')) :=
  St.call_ex (fun w S s => settle_c s hp hk hn hu) (fun a' => HSR.ok _ _ _ _ _ _ _ a') H q hq
theorem HeapR.of_hsr {b off : Nat} (n1 : 1 ≤ n) (n2 : n ≤ 1000) (hp : Hp a k) (ho : Of a k M) (hc : k = M.cnt n) (s : HSR h b off c pb n k a w S) : HeapR h n M w S := by
  obtain ⟨pl, hpl, hs⟩ := s
  exact ⟨_, _, _, _, _, _, ⟨n1, n2, hp, ho, hc, hpl⟩, hs⟩
theorem Put_c (s : HeapR h n M w S) {id x f : Int} (hP : HPutP n M id x f M') :
    Calls Try.prog 12 #[.pointer (some ⟨h, 0, none⟩), .int .i64 id, .int .u64 x] w fun e w' => e = .returned (.int .i64 f) ∧ ∃ S', HeapR h n M' w' S' ∧ Did S S' w w' := by
  obtain ⟨A, c, pb, k, a, pl, ho, hs⟩ := s
  have s0 : St w S w (HLA h A c pb n k a pl ++ []) := St.start (by rw [List.append_nil]; exact hs)
  have c0 := (hla_h s0).1
  have c1 := (hla_h s0).2
  have hcap := hla_cap s0
  unfold maxLen at hcap
  have hkn := ho.kn
  have hn := ho.n2
  have S0' := Lib.hid s0
  rcases hP with ⟨hno, rfl, rfl⟩ | ⟨i, hi, rfl, rfl, rfl⟩
  · have HO := Lib.hid ho
    by_cases h0 : 0 ≤ id
    · have d0 : decide (id < 0) = false := decide_eq_false (by omega)
      have d1 : decide ((n : Int) ≤ id) = true := decide_eq_true (by omega)
      clear s0 hs ho hno h0
      go_enter Try.func12, Try.ntmps12
      go_wp2_with fail
      go_ret
      exact ⟨rfl, S0'.out.fin fun S' h => ⟨A, c, pb, k, a, pl, HO.out, by rw [List.append_nil] at h; exact h⟩⟩
    · have d0 : decide (id < 0) = true := decide_eq_true (by omega)
      clear s0 hs ho hno h0
      go_enter Try.func12, Try.ntmps12
      go_wp2_with fail
      go_ret
      exact ⟨rfl, S0'.out.fin fun S' h => ⟨A, c, pb, k, a, pl, HO.out, by rw [List.append_nil] at h; exact h⟩⟩
  · have d0 : decide ((i : Int) < 0) = false := decide_eq_false (by omega)
    have d1 : decide ((n : Int) ≤ (i : Int)) = false := decide_eq_false (by omega)
    have d1' : decide (n ≤ i) = false := decide_eq_false (by omega)
    have i0 : 0 ≤ (i : Int) := by omega
    cases hm : M i with
    | some y =>
      obtain ⟨j, hj, hpl, e⟩ := ho.someI hm
      have PC := Lib.hid (place_c hs ho.n2 (i : Int) (j : Int) (place_yes ho hi hpl))
      obtain ⟨b, off, rfl⟩ := hla_some s0 (by omega)
      have z : ((j : Int) == -1) = false := beq_eq_false_iff_ne.2 (by omega)
      have SX := Lib.hid (show St w S w [HXR h b off c pb n k a pl] from St.start (Star.one (HXR.ok _ _ _ _ _ _ _ _ _) hs))
      have HU := Lib.hid (ho.hp.upd hj (i, x))
      have HPL := Lib.hid (ho.pl.key hj (x := (i, x)) (by rw [e]))
      have HOF := Lib.hid (show Of (updm a j (i, x)) k (M.put i x) from by
        have := ho.of.key ho.pl hj x
        rw [e] at this; exact this)
      have HC := Lib.hid (show k = (M.put i x).cnt n by rw [HM.cnt_old x (by rw [hm]; rfl)]; exact ho.cnt)
      have n1 := ho.n1
      clear s0 hs ho hm hpl e S0'
      go_enter Try.func12, Try.ntmps12
      go_wp2_with fail
      refine PC.out.mono ?_
      rintro e w1 ⟨rfl, rfl⟩
      go_wp2_with fail
      refine (lay_o SX.out 0 rfl hj (i, x) hi hn).mono ?_
      rintro e w2 ⟨rfl, s2⟩
      have s3 : St w S w2 [HSR h b off c pb n k (updm a j (i, x))] := s2.weak 0 rfl (HSR.ok _ _ _ _ _ _ _ _) fun T hT => ⟨_, HPL.out, hT⟩
      have T3 := Lib.hid (settle_o s3 0 rfl hj hkn hn HU.out)
      clear s2 s3 SX HU HPL PC
      go_wp2_with fail
      refine T3.out.mono ?_
      rintro e w3 ⟨a', ⟨rfl, hh, hkp⟩, s4⟩
      have S4 := Lib.hid s4
      have HH := Lib.hid hh
      have HK := Lib.hid hkp
      clear T3 s4 hh hkp
      go_wp2_with fail
      go_ret
      exact ⟨rfl, S4.out.fin fun S' h => HeapR.of_hsr n1 hn HH.out (HK.out _ HOF.out) HC.out (star_one h)⟩
    | none =>
      have PC := Lib.hid (place_c hs ho.n2 (i : Int) (-1) (place_no ho (fun j hj => by
        obtain rfl : i = j := by omega
        exact hm)))
      obtain ⟨iM, hiM, hzM, hsM, hbM⟩ := info3h Try.infoHM
      have s1 := S0'.out.box 58 #[.int .i64 0, .int .u64 0]
      rw [List.append_nil] at s1
      have LS := Lib.hid (show Lis (w.alloc (.cells #[.int .i64 0, .int .u64 0] 58)) 58 2 (.slice A k c) k (grid k 2 (hv a)) from s1.lis 1 rfl)
      have RB := Lib.hid (rds_box2 w 58 (.int .i64 0) (.int .u64 0))
      have c2 := (s1.blk 0 rfl).two.1
      have HU := Lib.hid (ho.hp.new (i, x))
      have HPL := Lib.hid (ho.pl.new (x := (i, x)) hi ((ho.noneI hi).1 hm))
      have HOF := Lib.hid (ho.of.new x hm)
      have HC := Lib.hid (show k + 1 = (M.put i x).cnt n by rw [HM.cnt_new x hm, if_pos hi, ← ho.cnt])
      have hk1 : k + 1 ≤ n := by
        rw [HC.out]; exact HM.cnt_le _ n
      have n1 := ho.n1
      have SB := Lib.hid s1
      clear s0 hs ho hm S0' s1
      go_enter Try.func12, Try.ntmps12
      go_wp2_with fail
      refine PC.out.mono ?_
      rintro e w1 ⟨rfl, rfl⟩
      clear PC
      go_wp2_with (at_builtin; refine wpList_lis rfl (.tmp 33) (.tmp 35) 53 rfl 58 iM (.agg #[.int .i64 0, .int .u64 0]) 2 16 Try.underlying53 hiM hzM hsM hbM rfl (by decide) _ _ _ rfl LS.out (some ⟨w.heap.size, 0, none⟩) 1 1 [.int .i64 0, .int .u64 0] rfl RB.out (by simp [Value.oneCell']) (by unfold maxLen; omega) (by omega) ?_; intro B c4 w4 hl hg hat; have t4 := SB.out.lis_put 1 rfl hl hg hat; have q4 := (t4.blk 0 rfl).two.1; have f4 := (t4.blk 0 rfl).frozen 0; have T4 := Lib.hid t4; clear t4 hl hg hat)
      have s5 := (T4.out.set_ 0 rfl 0 (.slice B (k + 1) c4)).take 3
      obtain ⟨b, off, rfl⟩ : ∃ b off, B = some ⟨b, off, none⟩ := by
        have hl5 : Lis _ 58 2 (.slice B (k + 1) c4) (k + 1) (grid k 2 (hv a) ++ [.int .i64 0, .int .u64 0]) := s5.lis 1 rfl
        rcases hl5.reads.2 with h | ⟨g, o, ha, hc⟩
        · omega
        · exact ⟨g, o, ha⟩
      have hgr : grid k 2 (hv a) ++ [.int .i64 0, .int .u64 0] = grid (k + 1) 2 (hv (updm a k (0, 0))) := by
        rw [grid_snoc _ _ _ (by omega), grid_like (n := k) (m := 2) (V := hv (updm a k (0, 0))) (V' := hv a) (fun j q hj hq => by
          rcases (show q = 0 ∨ q = 1 by omega) with rfl | rfl <;> simp [hv, updm, show j ≠ k by omega])]
        simp [List.range_succ, hv, updm]
      rw [hgr] at s5
      have SX := Lib.hid (show St w S _ [HXR h b off c4 pb n (k + 1) (updm a k (0, 0)) pl] from s5.fold (A := []) (HXR.ok _ _ _ _ _ _ _ _ _) fun T hT => hT)
      clear q4 f4 T4 s5 hgr LS RB SB c2 c0 c1
      go_wp2_with fail
      refine (lay_o SX.out 0 rfl (show k < k + 1 by omega) (i, x) hi hn).mono ?_
      rintro e w5 ⟨rfl, s6⟩
      rw [updm_updm] at s6
      have s7 : St w S w5 [HSR h b off c4 pb n (k + 1) (updm a k (i, x))] := s6.weak 0 rfl (HSR.ok _ _ _ _ _ _ _ _) fun T hT => ⟨_, HPL.out, hT⟩
      have T7 := Lib.hid (settle_o s7 0 rfl (show k < k + 1 by omega) hk1 hn HU.out)
      clear s6 s7 SX HU HPL
      go_wp2_with fail
      refine T7.out.mono ?_
      rintro e w6 ⟨a', ⟨rfl, hh, hkp⟩, s8⟩
      have S8 := Lib.hid s8
      have HH := Lib.hid hh
      have HK := Lib.hid hkp
      clear T7 s8 hh hkp
      go_wp2_with fail
      go_ret
      exact ⟨rfl, S8.out.fin fun S' h => HeapR.of_hsr n1 hn HH.out (HK.out _ HOF.out) HC.out (star_one h)⟩
end
end Go.Proofs.Ytncoeoccdimgoaa
