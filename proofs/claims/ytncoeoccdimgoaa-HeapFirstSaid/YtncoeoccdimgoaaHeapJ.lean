/- Layer 3: removing, dropping, taking. -/
import Derived.Test.YtncoeoccdimgoaaHeapI
namespace Go.Proofs.Ytncoeoccdimgoaa
open Go.RowKit
set_option linter.unusedVariables false
set_option maxRecDepth 100000
set_option maxHeartbeats 1000000
section
variable {w0 w : World} {S S0 : Nat → Prop} {N L : List Res} {h c pb n k b off : Nat} {A : Option Addr} {a : Nat → Mem} {pl : Nat → Int} {M M' : HM}
theorem remove_c (hs : Star (HL h b off c pb n k a pl) w S) (ho : HOk n k a pl M) {p : Nat} (hp : p < k) :
    Calls Try.prog 26 #[.pointer (some ⟨h, 0, none⟩), .int .i64 (p : Nat)] w fun e w' => e = .returned (.tuple #[]) ∧ ∃ S', HeapR h n (M.del (a p).1) w' S' ∧ Did S S' w w' := by
  obtain ⟨m, rfl⟩ : ∃ m, k = m + 1 := ⟨k - 1, by omega⟩
  have s0 : St w S w (HL h b off c pb n (m + 1) a pl ++ []) := St.start (by rw [List.append_nil]; exact hs)
  have hkn := ho.kn
  have hn := ho.n2
  have n1 := ho.n1
  have s1 : St w S (w.alloc (.cells #[.int .i64 ((a m).1 : Nat), .int .u64 (a m).2] 58)) (HL h b off c pb n (m + 1) a pl ++ [BlkR w.heap.size 58 #[.int .i64 ((a m).1 : Nat), .int .u64 (a m).2]]) := by
    have := s0.box 58 #[.int .i64 ((a m).1 : Nat), .int .u64 (a m).2]
    rwa [List.append_nil] at this
  have hidp := (ho.pl.at' p hp).1
  have hidm := (ho.pl.at' m (by omega)).1
  have hcap := heap_cap s0
  unfold maxLen at hcap
  have HDEL := Lib.hid (show (M.del (a p).1).cnt n = m from by
    have h1 := HM.cnt_del (M := M) (id := (a p).1) (by rw [(ho.of (a p).1 (a p).2).2 ⟨p, hp, rfl⟩]; rfl) n
    rw [if_pos hidp, ← ho.cnt] at h1; omega)
  have HPLm := Lib.hid ho.pl
  have HOFm := Lib.hid ho.of
  have HHP := Lib.hid (ho.hp.less (show m ≤ m + 1 by omega))
  -- the cells
  obtain ⟨h0, h1⟩ := heap_h s0
  obtain ⟨g0, g1⟩ := heap_h s1
  obtain ⟨e0, e1⟩ := heap_at s0 (show m < m + 1 by omega)
  obtain ⟨e2, e3⟩ := heap_at s1 hp
  have e4 := heap_pl s1 hidp
  have f4 := heap_pfrozen s1 (a p).1
  have s2 := heap_place s1 hidp (-1)
  obtain ⟨k0, k1⟩ := heap_h s2
  have k2 : _ ∧ _ := (s2.blk 3 rfl).two
  obtain ⟨k2, k3⟩ := k2
  have kf := (s2.blk 0 rfl).frozen 0
  have z0 : (((m + 1 : Nat) : Int) - 1) = (m : Int) := by omega
  have i0 : (m : Int) < ((m + 1 : Nat) : Int) := by omega
  have i1 : (p : Int) < ((m + 1 : Nat) : Int) := by omega
  have i2 : (((a p).1 : Nat) : Int) < (n : Int) := by omega
  have i3 : (m : Int) ≤ (c : Int) := by omega
  have S2 := Lib.hid s2
  clear s0 s1 s2 hs ho
  go_enter Try.func26, Try.ntmps26
  go_wp2_with fail
  go_region
  have t3 := S2.out.set_ 0 rfl 0 (.slice (some ⟨b, off, none⟩) m c)
  have t4 := t3.lis_as 1 rfl (v' := .slice (some ⟨b, off, none⟩) m c) (n' := m) (xs' := grid m 2 (hv a)) (by
    have hl : Lis _ 58 2 (.slice (some ⟨b, off, none⟩) (m + 1) c) (m + 1) (grid (m + 1) 2 (hv a)) := t3.lis 1 rfl
    have := hl.upto (show m ≤ m + 1 by omega)
    rwa [grid_take _ (show m ≤ m + 1 by omega)] at this) (fun g hg => hg)
  have T4 := Lib.hid (show St w S _ (HL h b off c pb n m a (updp pl (a p).1 (-1)) ++ [BlkR w.heap.size 58 #[.int .i64 ((a m).1 : Nat), .int .u64 (a m).2]]) from t4)
  clear t3 t4 S2 h0 h1 g0 g1 e0 e1 e2 e3 e4 f4
  by_cases hpm : p = m
  · subst hpm
    have z1 : ((p : Int) == (p : Int)) = true := beq_self_eq_true _
    have HPL := Lib.hid HPLm.out.cut
    have HOF := Lib.hid (HOFm.out.cut HPLm.out)
    clear HPLm HOFm
    go_wp2_with fail
    refine bodyPost_ret (v := .tuple #[]) ?_ rfl ⟨rfl, (T4.out.drew.take 3).fin fun S' hh => ⟨_, _, _, _, _, _, ⟨n1, hn, HHP.out, HOF.out, HDEL.out.symm, HPL.out⟩, hh⟩⟩
    simp [results, go_sem]
  · have z1 : ((p : Int) == (m : Int)) = false := beq_eq_false_iff_ne.2 (by omega)
    have hpm' : p < m := by omega
    have HPL := Lib.hid (HPLm.out.fill hpm')
    have HOF := Lib.hid (HOFm.out.fill HPLm.out hpm')
    have HU := Lib.hid (HHP.out.upd hpm' (a m))
    have s5 := (St.comm T4.out).fold (A := [_]) (R := HXR h b off c pb n m a (updp pl (a p).1 (-1))) (HXR.ok _ _ _ _ _ _ _ _ _) fun T hT => hT
    obtain ⟨b0, b1⟩ := (s5.blk 0 rfl).two
    have S5 := Lib.hid s5.drew
    have hmn : m ≤ n := by omega
    clear HPLm HOFm T4 s5 hpm
    go_wp2_with fail
    refine (lay_o S5.out 1 rfl hpm' (a m) hidm hn).mono ?_
    rintro e w2 ⟨rfl, s6⟩
    have s7 : St w S w2 [BlkR w.heap.size 58 #[.int .i64 ((a m).1 : Nat), .int .u64 (a m).2], HSR h b off c pb n m (updm a p (a m))] := s6.weak 1 rfl (HSR.ok _ _ _ _ _ _ _ _) fun T hT => ⟨_, HPL.out, hT⟩
    have T7 := Lib.hid (settle_o s7 1 rfl hpm' hmn hn HU.out)
    clear s6 s7 S5 HPL HU b0 b1
    go_wp2_with fail
    refine T7.out.mono ?_
    rintro e w3 ⟨a', ⟨rfl, hh, hkp⟩, s8⟩
    have S8 := Lib.hid (s8.drop 0 (by simp))
    have HH := Lib.hid hh
    have HK := Lib.hid hkp
    clear T7 s8 hh hkp
    go_wp2_with fail
    go_end0
    exact ⟨rfl, S8.out.fin fun S' h => HeapR.of_hsr n1 hn HH.out (HK.out _ HOF.out) HDEL.out.symm (star_one h)⟩
theorem remove_r (s : HeapR h n M w S) {p i : Nat} {x : Int} (hM : M i = some x) (hp : ∀ k a pl, HOk n k a pl M → ∃ q, q < k ∧ a q = (i, x) ∧ q = p) :
    Calls Try.prog 26 #[.pointer (some ⟨h, 0, none⟩), .int .i64 (p : Nat)] w fun e w' => e = .returned (.tuple #[]) ∧ ∃ S', HeapR h n (M.del i) w' S' ∧ Did S S' w w' := by
  obtain ⟨A, c, pb, k, a, pl, ho, hs⟩ := s
  obtain ⟨q, hq, e, rfl⟩ := hp k a pl ho
  have s0 : St w S w (HLA h A c pb n k a pl ++ []) := St.start (by rw [List.append_nil]; exact hs)
  obtain ⟨b, off, rfl⟩ := hla_some s0 (by omega)
  have := remove_c hs ho hq
  rw [e] at this
  exact this
theorem Drop_c (s : HeapR h n M w S) {id f : Int} (hP : HDropP M id f M') :
    Calls Try.prog 14 #[.pointer (some ⟨h, 0, none⟩), .int .i64 id] w fun e w' => e = .returned (.int .i64 f) ∧ ∃ S', HeapR h n M' w' S' ∧ Did S S' w w' := by
  have S0' := Lib.hid (show St w S w [HeapR h n M] from St.start (Star.one (HeapR.ok _ _ _) s))
  obtain ⟨A, c, pb, k, a, pl, ho, hs⟩ := s
  rcases hP with ⟨hno, rfl, rfl⟩ | ⟨i, x, rfl, hm, rfl, rfl⟩
  · have PC := Lib.hid (place_c hs ho.n2 id (-1) (place_no ho hno))
    clear hs ho hno
    go_enter Try.func14, Try.ntmps14
    go_wp2_with fail
    refine PC.out.mono ?_
    rintro e w1 ⟨rfl, rfl⟩
    go_wp2_with fail
    go_ret
    exact ⟨rfl, S0'.out.fin fun S' h => star_one h⟩
  · obtain ⟨j, hj, hpl, e⟩ := ho.someI hm
    have PC := Lib.hid (place_c hs ho.n2 (i : Int) (j : Int) (place_yes ho (ho.sup hm) hpl))
    have s0 : St w S w (HLA h A c pb n k a pl ++ []) := St.start (by rw [List.append_nil]; exact hs)
    obtain ⟨b, off, rfl⟩ := hla_some s0 (by omega)
    have RC := Lib.hid (remove_c hs ho hj)
    rw [e] at RC
    have z : ((j : Int) == -1) = false := beq_eq_false_iff_ne.2 (by omega)
    clear s0 hs ho hm hpl e S0'
    go_enter Try.func14, Try.ntmps14
    go_wp2_with fail
    refine PC.out.mono ?_
    rintro e w1 ⟨rfl, rfl⟩
    go_wp2_with fail
    refine RC.out.mono ?_
    rintro e w2 ⟨rfl, s2⟩
    have S2 := Lib.hid s2
    clear s2 RC PC
    go_wp2_with fail
    go_ret
    exact ⟨rfl, S2.out⟩
theorem Take_c (s : HeapR h n M w S) {id x f : Int} (hP : HTakeP M id x f M') :
    Calls Try.prog 16 #[.pointer (some ⟨h, 0, none⟩)] w fun e w' => e = .returned (.tuple #[.int .i64 id, .int .u64 x, .int .i64 f]) ∧ ∃ S', HeapR h n M' w' S' ∧ Did S S' w w' := by
  have s0 : St w S w [HeapR h n M] := St.start (Star.one (HeapR.ok _ _ _) s)
  have FC := Lib.hid (looks (First_c s hP.1) s0)
  obtain ⟨hf, hP⟩ := hP
  clear s s0
  rcases hP with ⟨rfl, rfl⟩ | ⟨rfl, rfl⟩
  · clear hf
    go_enter Try.func16, Try.ntmps16
    go_wp2_with fail
    refine FC.out.mono ?_
    rintro e w1 ⟨rfl, s1⟩
    have S1 := Lib.hid s1
    clear FC s1
    go_wp2_with fail
    refine bodyPost_ret (v := .tuple #[.int .i64 id, .int .u64 x, .int .i64 5]) ?_ rfl ⟨rfl, S1.out.fin fun S' h => star_one h⟩
    simp [results, Try.results16, go_sem]
  · obtain ⟨i, hi, hmin, rfl⟩ : ∃ i : Nat, M i = some x ∧ (∀ j y, M j = some y → ¬ hlt (j, y) (i, x)) ∧ id = (i : Int) := by
      rcases hf with ⟨_, _, _, h⟩ | ⟨i, h1, h2, h3, _⟩
      · omega
      · exact ⟨i, h1, h2, h3⟩
    have HR := Lib.hid (fun w S (s : HeapR h n M w S) => remove_r (w := w) (S := S) s (p := 0) hi (fun k a pl (ho : HOk n k a pl M) => by
      obtain ⟨q, hq, e⟩ := (ho.of i x).1 hi
      refine ⟨0, by omega, ?_, rfl⟩
      have h1 := ho.hp.first q hq
      rw [e] at h1
      have h2 := hmin (a 0).1 (a 0).2 ((ho.of _ _).2 ⟨0, by omega, rfl⟩)
      exact hlt_eq h2 h1))
    rw [Int.toNat_natCast]
    clear hf hi hmin
    go_enter Try.func16, Try.ntmps16
    go_wp2_with fail
    refine FC.out.mono ?_
    rintro e w1 ⟨rfl, s1⟩
    have RC := Lib.hid (St.call HR.out (HeapR.ok _ _ _) s1 0 rfl)
    clear FC HR s1
    go_wp2_with fail
    refine RC.out.mono ?_
    rintro e w2 ⟨rfl, s2⟩
    have S2 := Lib.hid s2
    clear RC s2
    go_wp2_with fail
    refine bodyPost_ret (v := .tuple #[.int .i64 (i : Nat), .int .u64 x, .int .i64 0]) ?_ rfl ⟨rfl, S2.out.fin fun S' h => star_one h⟩
    simp [results, Try.results16, go_sem]
/-! ### Among other things -/
theorem Put_o (H : St w0 S0 w L) (i : Nat) (hi : L[i]? = some (HeapR h n M)) {id x f : Int} (hP : HPutP n M id x f M') :
    Calls Try.prog 12 #[.pointer (some ⟨h, 0, none⟩), .int .i64 id, .int .u64 x] w fun e w' => e = .returned (.int .i64 f) ∧ St w0 S0 w' (L.set i (HeapR h n M')) :=
  St.call (fun w S s => Put_c s hP) (HeapR.ok _ _ _) H i hi
theorem Drop_o (H : St w0 S0 w L) (i : Nat) (hi : L[i]? = some (HeapR h n M)) {id f : Int} (hP : HDropP M id f M') :
    Calls Try.prog 14 #[.pointer (some ⟨h, 0, none⟩), .int .i64 id] w fun e w' => e = .returned (.int .i64 f) ∧ St w0 S0 w' (L.set i (HeapR h n M')) :=
  St.call (fun w S s => Drop_c s hP) (HeapR.ok _ _ _) H i hi
theorem Take_o (H : St w0 S0 w L) (i : Nat) (hi : L[i]? = some (HeapR h n M)) {id x f : Int} (hP : HTakeP M id x f M') :
    Calls Try.prog 16 #[.pointer (some ⟨h, 0, none⟩)] w fun e w' => e = .returned (.tuple #[.int .i64 id, .int .u64 x, .int .i64 f]) ∧ St w0 S0 w' (L.set i (HeapR h n M')) :=
  St.call (fun w S s => Take_c s hP) (HeapR.ok _ _ _) H i hi
theorem First_o (H : St w0 S0 w L) (i : Nat) (hi : L[i]? = some (HeapR h n M)) {id x f : Int} (hP : FstP M id x f) :
    Calls Try.prog 18 #[.pointer (some ⟨h, 0, none⟩)] w fun e w' => e = .returned (.tuple #[.int .i64 id, .int .u64 x, .int .i64 f]) ∧ St w0 S0 w' L := by
  obtain ⟨S, hs⟩ := H.get i hi
  exact looks (First_c hs hP) H
theorem Key_o (H : St w0 S0 w L) (i : Nat) (hi : L[i]? = some (HeapR h n M)) {id x f : Int} (hP : KeyP n M id x f) :
    Calls Try.prog 19 #[.pointer (some ⟨h, 0, none⟩), .int .i64 id] w fun e w' => e = .returned (.tuple #[.int .u64 x, .int .i64 f]) ∧ w = w' := by
  obtain ⟨S, hs⟩ := H.get i hi
  exact Key_c hs hP
theorem Len_o (H : St w0 S0 w L) (i : Nat) (hi : L[i]? = some (HeapR h n M)) {k : Nat} (hk : k = M.cnt n) :
    Calls Try.prog 20 #[.pointer (some ⟨h, 0, none⟩)] w fun e w' => e = .returned (.int .i64 (k : Nat)) ∧ w = w' := by
  obtain ⟨S, hs⟩ := H.get i hi
  rw [hk]
  exact (Len_c hs).mono fun e w' ⟨h1, h2⟩ => ⟨h1, h2.symm⟩
/-- What holds of any heap's members. -/
theorem heap_sup (H : St w0 S0 w L) (i : Nat) (hi : L[i]? = some (HeapR h n M)) : (1 ≤ n ∧ n ≤ 1000) ∧ ∀ j, n ≤ j → M j = none := by
  obtain ⟨S, A, c, pb, k, a, pl, ho, _⟩ := H.get i hi
  refine ⟨⟨ho.n1, ho.n2⟩, fun j hj => ?_⟩
  cases hm : M j with
  | none => rfl
  | some x => have := ho.sup hm; omega
end
end Go.Proofs.Ytncoeoccdimgoaa
