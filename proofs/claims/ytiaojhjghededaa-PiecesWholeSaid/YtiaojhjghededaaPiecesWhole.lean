/-
  For every size and all bytes PiecesWhole answers true, and changes nothing: a list of one whole buffer is that buffer: gathered it is its bytes; a piece longer by one may not be. No condition.
-/
import Derived.Test.YtiaojhjghededaaRows
import Derived.Test.YtiaojhjghededaaFr
import Derived.Test.YtiaojhjghededaaPieZ
import Derived.Test.YtiaojhjghededaaOpen
namespace Go.Proofs.Ytiaojhjghededaa.piecesWhole
open Go.ChangeShapes Go.WideShapes Go.ChangeAt Go.RowKit
set_option linter.unusedVariables false
theorem own : ownKnob Try.prog.godebug = none := by kernel_rfl
theorem laid : laidOutB Try.prog = true := by kernel_rfl
set_option maxRecDepth 100000
set_option maxHeartbeats 3200000
theorem walk (a : Int) (B : Option Addr) (bc : Nat) (bs : List Int) (w : World) (ha : 0 ≤ a ∧ a ≤ 255) (hbl : bs.length ≤ bc) (hbc : bc ≤ maxLen) (hB : Rds w B bs.length 1 (bys bs)) :
    Calls Try.prog 6 #[.int .u8 a, .slice B bs.length bc] w fun r w' => r = .returned (.bool true) ∧ Below w.heap.size w w' := by
  obtain ⟨a1, a2⟩ := ha
  obtain ⟨x, hx⟩ : ∃ x, Int.tmod a 100 = x := ⟨_, rfl⟩
  have hx2 : 0 ≤ x ∧ x < 100 := by rw [← hx, Int.tmod_eq_emod_of_nonneg a1]; omega
  obtain ⟨n, hn⟩ : ∃ n : Nat, 1 + x = (n : Int) := ⟨(1 + x).toNat, by omega⟩
  have hn1 : 1 ≤ n := by omega
  have hn2 : n ≤ 100 := by omega
  have hmc : mayC 1 (fun _ => (n : Int)) (fun _ => 1) := ⟨⟨by omega, by omega⟩, fun k hk => by
    obtain rfl : k = 0 := by omega
    exact ⟨by show (0 : Int) < n; omega, by show (n : Int) ≤ 65536; omega, by show (1 : Int) ≤ 1; omega, by show (1 : Int) ≤ 100; omega⟩⟩
  have hfl : flatC (fun _ => (n : Int)) (fun _ => 1) 1 = [n] := by
    show [] ++ List.replicate (1 : Int).toNat (n : Int).toNat = [n]
    rw [Int.toNat_natCast]
    rfl
  have hcl : Cls (fun j i => (#[.int .i64 (n : Int), .int .i64 1] : Array Value).getD (j * 2 + i) (.bool false)) 1 (fun _ => (n : Int)) (fun _ => 1) := fun j hj => by
    obtain rfl : j = 0 := by omega
    exact ⟨rfl, rfl, (show -9223372036854775808 ≤ (n : Int) ∧ (n : Int) ≤ 9223372036854775807 from ⟨by omega, by omega⟩), by decide⟩
  have NW := Lib.hid (fun (W : World) (g : Nat) (h : St w None W [BlkR g 48 #[.int .i64 (n : Int), .int .i64 1]]) => new_o h (rdm_blk (k := 1) (m := 2) (h.blk 0 rfl) rfl) hcl hmc (cap := 1))
  rw [hfl] at NW
  have HB := Lib.hid hB
  clear hcl hmc hfl hB
  by_cases hb : 200 < bs.length
  · have d1 : decide (200 < (bs.length : Int)) = true := decide_eq_true (by omega)
    go_enter Try.func6, Try.ntmps6
    go_wp2_with fail
    refine (awake_o (St.begin w)).mono ?_
    rintro e w1 ⟨rfl, s1⟩
    have K1 := Lib.hid (NW.out _ _ (s1.box 48 #[.int .i64 (n : Int), .int .i64 1]))
    clear s1
    go_wp2_with fail
    refine K1.out.mono ?_
    rintro e w2 ⟨p, rfl, s2⟩
    go_wp2_with fail
    go_ret
    exact ⟨rfl, s2.below⟩
  have d1 : decide (200 < (bs.length : Int)) = false := decide_eq_false (by omega)
  obtain ⟨k, hk⟩ : ∃ k, min n bs.length = k := ⟨_, rfl⟩
  have m1 : min (n : Int) ((bs.length : Nat) : Int) = (k : Int) := by omega
  have hkn : k ≤ n := by omega
  have hkb : k ≤ bs.length := by omega
  have zz : ((k : Int) == (k : Int)) = true := by simp
  have wz : IntKind.i64.wrap ((n : Int) + 1) = (n : Int) + 1 := IntWalk.i64_in _ ⟨by omega, by omega⟩
  have hwf : ∀ q ∈ [qW n], q.wf := fun q hq => by
    rw [List.mem_singleton.1 hq]; exact wf_q (by omega)
  have ok1 := w1_ok hn2
  obtain ⟨hm1, -, -, -⟩ := may_q (st := w1 n) hn1 (by rw [w1_0]) (by rw [w1_0]) (by rw [w1_0]; simp)
  obtain ⟨hw0, hap, -, -, -⟩ := may_wf ok1 hm1
  obtain ⟨ok2, hm2⟩ := sca_ok ok1 hm1 bs
  obtain ⟨z1, z2, z3, -⟩ := sca_same [qW n] bs (w1 n) hw0 0
  rw [w1_0] at z1 z2 z3
  obtain ⟨-, hf1, hf2, hf3⟩ := may_q hn1 z3 z2 (z1.trans (by simp))
  have how := own_q (n := n) (st := w1 n) (by rw [w1_0]) (by rw [w1_0])
  have hgs := gat_sca [qW n] bs (w1 n) hw0 hap
  have hgl := gat_len ok1 hm1
  obtain ⟨hlt, -⟩ := len_tot ok1 hm1
  have htot : totP [qW n] = n := by simp [totP, qW]
  rw [htot] at hgl hlt
  have hbt := @back_take bs (gatP (w1 n) [qW n])
  have hbn := @back_len bs (gatP (w1 n) [qW n])
  rw [hgl] at hbt hbn hgs
  have hfit := (may_wf ok2 hm2).2.2.1 (qW n) List.mem_cons_self
  have hrd := fit_read ok2 hfit
  have hcut : cutP (scaP [qW n] bs (w1 n)) (qW n) = bs.take n ++ (gatP (w1 n) [qW n]).drop bs.length := by
    rw [← hgs]; simp [gatP]
  rw [hcut] at hrd
  obtain ⟨C, hC⟩ : ∃ C, bs.take n ++ (gatP (w1 n) [qW n]).drop bs.length = C := ⟨_, rfl⟩
  rw [hC] at hrd hgs hbt hbn
  rw [hk] at hbt
  have G0 := Lib.hid (w1_get hn1)
  have OK0 := Lib.hid (w0_ok hn2)
  have OK1 := Lib.hid ok1
  have OK2 := Lib.hid ok2
  have HRD := Lib.hid hrd
  have SC := Lib.hid (fun (W : World) (S : Nat → Prop) (p lb : Nat) (t : St W S W [PoolR p 1 (w1 n)]) (hR : RdP W (some ⟨lb, 0, none⟩) [qW n]) (hN : notIn (some ⟨lb, 0, none⟩) S) (hB : Rds W B bs.length 1 (bys bs)) (hNB : bs.length = 0 ∨ notIn B S) => scatter_o t 0 rfl (cyP _ _ _) ok1 (some ⟨lb, 0, none⟩) 1 [qW n] (by simp) (by unfold maxLen; omega) hwf hR hN hm1 1 how B bc bs hbl hbc hB hNB)
  have GA := Lib.hid (fun (W0 W : World) (S : Nat → Prop) (p lb : Nat) (t : St W0 S W [PoolR p 1 (scaP [qW n] bs (w1 n))]) (hR : RdP W0 (some ⟨lb, 0, none⟩) [qW n]) (hN : notIn (some ⟨lb, 0, none⟩) S) => gather_o t 0 rfl (cyP _ _ _) ok2 (some ⟨lb, 0, none⟩) 1 [qW n] (by simp) (by unfold maxLen; omega) hwf hR hN hm2)
  rw [hlt, m1] at SC
  rw [hgs] at GA
  have HF1 := Lib.hid hf1
  have HF2 := Lib.hid hf2
  have HF3 := Lib.hid hf3
  have HBT := Lib.hid hbt
  have HCN := Lib.hid hbn
  clear hm1 hw0 hap hm2 z1 z2 z3 hf1 hf2 hf3 how hgs hgl hlt htot hbt hbn hfit hrd hcut hC hk hwf ok1 ok2
  obtain ⟨st2, hst2⟩ : ∃ st2, scaP [qW n] bs (w1 n) = st2 := ⟨_, rfl⟩
  rw [hst2] at OK2 HRD SC GA HF1 HF2 HF3
  clear hst2
  go_enter Try.func6, Try.ntmps6
  go_wp2_with fail
  refine (awake_o (St.begin w)).mono ?_
  rintro e w1' ⟨rfl, s1⟩
  have K1 := Lib.hid (NW.out _ _ (s1.box 48 #[.int .i64 (n : Int), .int .i64 1]))
  clear s1
  go_wp2_with fail
  refine K1.out.mono ?_
  rintro e w2 ⟨p, rfl, s2'⟩
  have s2 : St w None w2 [PoolR p 1 (fresh [n])] := s2'.drop 0 (by simp)
  have K2 := Lib.hid (get_o s2 0 rfl OK0.out G0.out)
  clear s2 s2' K1
  go_wp2_with fail
  refine K2.out.mono ?_
  rintro e w3 ⟨rfl, s3'⟩
  have s3 : St w None w3 [PoolR p 1 (w1 n)] := s3'
  obtain ⟨hb0, hb1⟩ := (Blk.new w3 40 #[.int .i64 0, .int .u64 1]).two
  have s4 : St w None _ [PoolR p 1 (w1 n), BlkR w3.heap.size 40 #[.int .i64 0, .int .u64 1]] := s3.box 40 #[.int .i64 0, .int .u64 1]
  have s5' := s4.lis_new 42 4 1 #[.int .i64 0, .int .u64 1, .int .i64 0, .int .i64 (n : Int)] rfl (by unfold maxLen; omega)
  rw [show (w3.alloc (.cells #[.int .i64 0, .int .u64 1] 40)).heap.size = w3.heap.size + 1 by simp] at s5'
  have s5 : St w None _ ([PoolR p 1 (w1 n)] ++ [BlkR w3.heap.size 40 #[.int .i64 0, .int .u64 1], LisR 42 4 (.slice (some ⟨w3.heap.size + 1, 0, none⟩) 1 1) 1 (pcl [qW n])]) := s5'
  have S5 := Lib.hid s5
  clear s5 s5' s4 s3 s3' K2
  go_wp2_with fail
  obtain ⟨v, hv⟩ : ∃ v, (w3.alloc (.cells #[.int .i64 0, .int .u64 1] 40)).alloc (.cells #[.int .i64 0, .int .u64 1, .int .i64 0, .int .i64 (n : Int)] 42) = v := ⟨_, rfl⟩
  have s5 := S5.out
  rw [hv] at s5 ⊢
  obtain ⟨S, t, tl, tn, tb⟩ := s5.rebase (Below.refl _ _)
  have hRP : RdP v (some ⟨w3.heap.size + 1, 0, none⟩) [qW n] := rdp_lis (s5.lis 2 rfl)
  have hNL : notIn (some ⟨w3.heap.size + 1, 0, none⟩) S := none_not ((tn 1 _ rfl).elim fun T h => h.2 _ ((h.1.2 _).2 rfl))
  have hNH : ¬ S w3.heap.size := (tn 0 _ rfl).elim fun T h => h.2 _ ((h.1.2 _).2 rfl)
  have hNB : bs.length = 0 ∨ notIn B S := by
    rcases HB.out.2 with h | ⟨g, o, e, hc⟩
    · exact Or.inl h
    · by_cases h0 : bs.length = 0
      · exact Or.inl h0
      · refine Or.inr fun g' o' e' hS => ?_
        rw [e] at e'
        injection e' with e'
        injection e' with e1 e2
        have hlt : g < w.heap.size := cell_lt (hc 0 _ (bys_get (List.getElem?_eq_getElem (by omega))))
        rcases (tl _ hS).2 with h | h
        · exact h
        · omega
  have K3 := Lib.hid (SC.out v S p (w3.heap.size + 1) t hRP hNL (rds_below HB.out s5.below) hNB)
  have hvh0 : v.cell? ⟨w3.heap.size, 0, none⟩ = some (.int .i64 0) := (s5.blk 1 rfl).two.1
  have hvh1 : v.cell? ⟨w3.heap.size, 1, none⟩ = some (.int .u64 1) := (s5.blk 1 rfl).two.2
  have hvl : w3.heap.size < v.heap.size := (s5.blk 1 rfl).lt
  have HRP := Lib.hid hRP
  have HNL := Lib.hid hNL
  have TB := Lib.hid tb
  have HSB := Lib.hid (s5.below)
  have HV5 := Lib.hid s5
  clear s5 t tl tn tb hRP hNL hNB S5 hv hb0 hb1
  refine K3.out.mono ?_
  rintro e w6 ⟨rfl, s6⟩
  have K4 := Lib.hid (GA.out v w6 S p (w3.heap.size + 1) s6 HRP.out HNL.out)
  clear K3 s6
  go_wp2_with fail
  refine K4.out.mono ?_
  rintro e w7 ⟨A1, c1, rfl, s7'⟩
  have s7 : St w None w7 [PoolR p 1 st2, LisR 5 1 (.slice A1 C.length c1) C.length (bys C), BlkR w3.heap.size 40 #[.int .i64 0, .int .u64 1], LisR 42 4 (.slice (some ⟨w3.heap.size + 1, 0, none⟩) 1 1) 1 (pcl [qW n])] := (TB.out _ _ s7').swap01
  obtain ⟨q70, q71⟩ := (s7.blk 2 rfl).two
  have K5 := Lib.hid (read_o s7 0 rfl OK2.out HRD.out)
  clear K4 s7 s7' hvh0 hvh1 hvl hNH
  go_wp2_with fail
  refine K5.out.mono ?_
  rintro e w8 ⟨A2, c2, rfl, s8'⟩
  have s8 : St w None w8 ([PoolR p 1 st2] ++ [LisR 5 1 (.slice A2 C.length c2) C.length (bys C), LisR 5 1 (.slice A1 C.length c1) C.length (bys C), BlkR w3.heap.size 40 #[.int .i64 0, .int .u64 1], LisR 42 4 (.slice (some ⟨w3.heap.size + 1, 0, none⟩) 1 1) 1 (pcl [qW n])]) := (St.comm (A := [_, _, _, _]) (B := [_]) s8').swap01
  have cc1 := lis_cap (s8.lis 2 rfl)
  rw [HCN.out] at cc1
  have hsz : ∀ W : World, (Go.sizeOf 5).run Try.prog W = .ok 1 W := size_u8
  have f1 := fun W => run_slice_to (P := Try.prog) 23 5 Try.underlying23 hsz A1 C.length c1 k (by omega) W
  have f2 := fun W => run_slice_to (P := Try.prog) 23 5 Try.underlying23 hsz B bs.length bc k (by omega) W
  obtain ⟨B1, hB1⟩ : ∃ B1, (if c1 = 0 then A1 else A1.map (·.add (0 * 1))) = B1 := ⟨_, rfl⟩
  obtain ⟨B2, hB2⟩ : ∃ B2, (if bc = 0 then B else B.map (·.add (0 * 1))) = B2 := ⟨_, rfl⟩
  rw [hB1] at f1
  rw [hB2] at f2
  have htk : (bs.take k).length = k := by rw [List.length_take]; omega
  obtain ⟨sC, hsC⟩ : ∃ s, strOfNums C = s := ⟨_, rfl⟩
  obtain ⟨sK, hsK⟩ : ∃ s, strOfNums (bs.take k) = s := ⟨_, rfl⟩
  have FA := Lib.hid (fun (W : World) (N : List Res) (h : St w None W ([PoolR p 1 st2, LisR 5 1 (.slice A2 C.length c2) C.length (bys C), LisR 5 1 (.slice A1 C.length c1) C.length (bys C), BlkR w3.heap.size 40 #[.int .i64 0, .int .u64 1]] ++ N)) => conv_bys (P := Try.prog) 23 5 9 Try.underlying23 Try.underlying5 Try.underlying9 W A1 c1 C (h.lis 2 rfl).reads)
  have FB := Lib.hid (fun (W : World) (N : List Res) (h : St w None W ([PoolR p 1 st2, LisR 5 1 (.slice A2 C.length c2) C.length (bys C), LisR 5 1 (.slice A1 C.length c1) C.length (bys C), BlkR w3.heap.size 40 #[.int .i64 0, .int .u64 1]] ++ N)) => conv_bys (P := Try.prog) 23 5 9 Try.underlying23 Try.underlying5 Try.underlying9 W A2 c2 C (h.lis 1 rfl).reads)
  have FC := Lib.hid (fun (W : World) (N : List Res) (h : St w None W ([PoolR p 1 st2, LisR 5 1 (.slice A2 C.length c2) C.length (bys C), LisR 5 1 (.slice A1 C.length c1) C.length (bys C), BlkR w3.heap.size 40 #[.int .i64 0, .int .u64 1]] ++ N)) => conv_bys (P := Try.prog) 23 5 9 Try.underlying23 Try.underlying5 Try.underlying9 W B1 c1 (bs.take k) (by
    have g1 := ((h.lis 2 rfl).cut (k := 0) (by omega)).upto (k := k) (by rw [HCN.out]; omega)
    rw [hB1, show List.take (k * 1) (List.drop (0 * 1) (bys C)) = bys (C.take k) by simp [bys, List.map_take], HBT.out] at g1
    rw [htk]; exact g1.reads))
  have FD := Lib.hid (fun (W : World) (N : List Res) (h : St w None W ([PoolR p 1 st2, LisR 5 1 (.slice A2 C.length c2) C.length (bys C), LisR 5 1 (.slice A1 C.length c1) C.length (bys C), BlkR w3.heap.size 40 #[.int .i64 0, .int .u64 1]] ++ N)) => conv_bys (P := Try.prog) 23 5 9 Try.underlying23 Try.underlying5 Try.underlying9 W B2 bc (bs.take k) (by
    refine ⟨by simp [bys], ?_⟩
    rcases (rds_below HB.out h.below).2 with h | ⟨g, o, e, hc⟩
    · exact Or.inl (by omega)
    · refine Or.inr ⟨g, o, ?_, fun j u hu => hc j u ?_⟩
      · rw [← hB2, e]
        split
        · rfl
        · rw [Option.map_some, Go.WideShapes.add_plain, Nat.zero_mul, Nat.add_zero]
      · have hj : j < k := by
          have := (List.getElem?_eq_some_iff.1 hu).1
          rw [bys_len, htk] at this
          exact this
        rw [show bys (bs.take k) = (bys bs).take k by simp [bys, List.map_take], List.getElem?_take_of_lt hj] at hu
        exact hu))
  rw [hsC] at FA FB
  rw [hsK, htk] at FC FD
  have ec : (sC.toList == sC.toList) = true := by simp
  have ek : (sK.toList == sK.toList) = true := by simp
  have hR1 := Lib.hid (fun W : World => rdp_blk (ps := [⟨0, 1, 0, (n : Int) + 1⟩]) (Blk.new W 42 #[.int .i64 0, .int .u64 1, .int .i64 0, .int .i64 ((n : Int) + 1)]))
  have hR2 := Lib.hid (fun W : World => rdp_blk (ps := [⟨0, 1, 1, (n : Int)⟩]) (Blk.new W 42 #[.int .i64 0, .int .u64 1, .int .i64 1, .int .i64 (n : Int)]))
  have M1 := Lib.hid (fun (W : World) (N : List Res) (h : St w None W ([PoolR p 1 st2] ++ N)) => may_new h ((Below.refl _ _).alloc (Nat.le_refl _) (.cells #[.int .i64 0, .int .u64 1, .int .i64 0, .int .i64 ((n : Int) + 1)] 42)) OK2.out (Nat.le_refl _) (cap := 1) [⟨0, 1, 0, (n : Int) + 1⟩] (by simp) (by unfold maxLen; omega) (hR1.out W))
  have M2 := Lib.hid (fun (W : World) (N : List Res) (h : St w None W ([PoolR p 1 st2] ++ N)) => may_new h ((Below.refl _ _).alloc (Nat.le_refl _) (.cells #[.int .i64 0, .int .u64 1, .int .i64 1, .int .i64 (n : Int)] 42)) OK2.out (Nat.le_refl _) (cap := 1) [⟨0, 1, 1, (n : Int)⟩] (by simp) (by unfold maxLen; omega) (hR2.out W))
  rw [HF1.out] at M1
  rw [HF2.out] at M2
  have S8 := Lib.hid s8.drew
  obtain ⟨iP, hiP, hzP, hsP, hbP⟩ := info_parts YtiaojhjghededaaiPc
  clear s8 s8' hB1 hB2 hsC hsK hsz htk K5 q70 q71
  go_wp2_with fail
    --GEN
  refine wp_region_held_drew (S := (fun V => ∃ N, St w None V ([PoolR p 1 st2, LisR 5 1 (.slice A2 C.length c2) C.length (bys C), LisR 5 1 (.slice A1 C.length c1) C.length (bys C), BlkR w3.heap.size 40 #[.int .i64 0, .int .u64 1]] ++ N))) (by kernel_rfl) ⟨[_], S8.out⟩ (fun hHeld => ?_)
  refine wpAnyH_take (i := 0) (oi := { dst := some 74, op := Op.move (Operand.tmp 12), type := 30, pos := "outright.go:83", after := #[], guard := none }) (v := ?_) rfl (by kernel_rfl) (by kernel_rfl) (by kernel_rfl) (fun _ _ _ h => h) (Or.inl ⟨by rfl, ?_⟩) hHeld ?_
  rotate_left
  · intro wz hSw; (try dsimp only at hSw); go_simp; try (with_reducible rfl)
  try simp only [Act.put, List.setIfInBounds_toArray, List.set_cons_zero, List.set_cons_succ]
  refine wpAnyH_take (i := 1) (oi := { dst := some 75, op := Op.binOp BinOp.eql 30 (Operand.tmp 74) (Operand.const (Value.int IntKind.i64 0)) 30, type := 4, pos := "outright.go:83", after := #[{ on := 0, ground := Ground.data }], guard := none }) (v := ?_) rfl (by kernel_rfl) (by kernel_rfl) (by kernel_rfl) (fun _ _ _ h => h) (Or.inl ⟨by rfl, ?_⟩) hHeld ?_
  rotate_left
  · intro wz hSw; (try dsimp only at hSw); go_simp; try (with_reducible rfl)
  try simp only [Act.put, List.setIfInBounds_toArray, List.set_cons_zero, List.set_cons_succ]
  refine wpAnyH_take (i := 2) (oi := { dst := some 76, op := Op.move (Operand.tmp 75), type := 4, pos := "outright.go:83", after := #[{ on := 1, ground := Ground.data }], guard := none }) (v := ?_) rfl (by kernel_rfl) (by kernel_rfl) (by kernel_rfl) (fun _ _ _ h => h) (Or.inl ⟨by rfl, ?_⟩) hHeld ?_
  rotate_left
  · intro wz hSw; (try dsimp only at hSw); go_simp; try (with_reducible rfl)
  try simp only [Act.put, List.setIfInBounds_toArray, List.set_cons_zero, List.set_cons_succ]
  refine wpAnyH_take (i := 3) (oi := { dst := some 77, op := Op.move (Operand.tmp 11), type := 3, pos := "outright.go:83", after := #[{ on := 2, ground := Ground.guard }], guard := some (2, true) }) (v := ?_) rfl (by kernel_rfl) (by kernel_rfl) (by kernel_rfl) (fun _ _ _ h => h) (Or.inl ⟨by rfl, ?_⟩) hHeld ?_
  rotate_left
  · intro wz hSw; (try dsimp only at hSw); go_simp; try (with_reducible rfl)
  try simp only [Act.put, List.setIfInBounds_toArray, List.set_cons_zero, List.set_cons_succ]
  refine wpAnyH_take (i := 4) (oi := { dst := some 78, op := Op.move (Operand.tmp 5), type := 3, pos := "outright.go:83", after := #[{ on := 2, ground := Ground.guard }], guard := some (2, true) }) (v := ?_) rfl (by kernel_rfl) (by kernel_rfl) (by kernel_rfl) (fun _ _ _ h => h) (Or.inl ⟨by rfl, ?_⟩) hHeld ?_
  rotate_left
  · intro wz hSw; (try dsimp only at hSw); go_simp; try (with_reducible rfl)
  try simp only [Act.put, List.setIfInBounds_toArray, List.set_cons_zero, List.set_cons_succ]
  refine wpAnyH_take (i := 5) (oi := { dst := some 79, op := Op.move (Operand.tmp 1), type := 23, pos := "outright.go:83", after := #[{ on := 2, ground := Ground.guard }], guard := some (2, true) }) (v := ?_) rfl (by kernel_rfl) (by kernel_rfl) (by kernel_rfl) (fun _ _ _ h => h) (Or.inl ⟨by rfl, ?_⟩) hHeld ?_
  rotate_left
  · intro wz hSw; (try dsimp only at hSw); go_simp; try (with_reducible rfl)
  try simp only [Act.put, List.setIfInBounds_toArray, List.set_cons_zero, List.set_cons_succ]
  refine wpAnyH_take (i := 6) (oi := { dst := some 80, op := Op.call { callee := Callee.builtin Builtin.len, args := #[Operand.tmp 79], argTypes := #[23] }, type := 3, pos := "outright.go:83", after := #[{ on := 5, ground := Ground.data }, { on := 2, ground := Ground.guard }], guard := some (2, true) }) (v := ?_) rfl (by kernel_rfl) (by kernel_rfl) (by kernel_rfl) (fun _ _ _ h => h) (Or.inl ⟨by rfl, ?_⟩) hHeld ?_
  rotate_left
  · intro wz hSw; (try dsimp only at hSw); go_simp; try (with_reducible rfl)
  try simp only [Act.put, List.setIfInBounds_toArray, List.set_cons_zero, List.set_cons_succ]
  refine wpAnyH_take (i := 7) (oi := { dst := some 81, op := Op.call { callee := Callee.builtin Builtin.min, args := #[Operand.tmp 78, Operand.tmp 80], argTypes := #[3, 3] }, type := 3, pos := "outright.go:83", after := #[{ on := 4, ground := Ground.data }, { on := 6, ground := Ground.data }, { on := 2, ground := Ground.guard }], guard := some (2, true) }) (v := ?_) rfl (by kernel_rfl) (by kernel_rfl) (by kernel_rfl) (fun _ _ _ h => h) (Or.inl ⟨by rfl, ?_⟩) hHeld ?_
  rotate_left
  · intro wz hSw; (try dsimp only at hSw); go_simp; try (with_reducible rfl)
  try simp only [Act.put, List.setIfInBounds_toArray, List.set_cons_zero, List.set_cons_succ]
  refine wpAnyH_take (i := 8) (oi := { dst := some 82, op := Op.binOp BinOp.eql 3 (Operand.tmp 77) (Operand.tmp 81) 3, type := 4, pos := "outright.go:83", after := #[{ on := 3, ground := Ground.data }, { on := 7, ground := Ground.data }, { on := 2, ground := Ground.guard }], guard := some (2, true) }) (v := ?_) rfl (by kernel_rfl) (by kernel_rfl) (by kernel_rfl) (fun _ _ _ h => h) (Or.inl ⟨by rfl, ?_⟩) hHeld ?_
  rotate_left
  · intro wz hSw; (try dsimp only at hSw); go_simp; try (with_reducible rfl)
  try simp only [Act.put, List.setIfInBounds_toArray, List.set_cons_zero, List.set_cons_succ]
  refine wpAnyH_take (i := 9) (oi := { dst := some 83, op := Op.pick (Operand.tmp 76) (Operand.tmp 82) (Operand.const (Value.bool false)), type := 4, pos := "outright.go:83", after := #[{ on := 2, ground := Ground.data }, { on := 8, ground := Ground.data }], guard := none }) (v := ?_) rfl (by kernel_rfl) (by kernel_rfl) (by kernel_rfl) (fun _ _ _ h => h) (Or.inl ⟨by rfl, ?_⟩) hHeld ?_
  rotate_left
  · intro wz hSw; (try dsimp only at hSw); go_simp; try (with_reducible rfl)
  try simp only [Act.put, List.setIfInBounds_toArray, List.set_cons_zero, List.set_cons_succ]
  refine wpAnyH_take (i := 10) (oi := { dst := some 84, op := Op.move (Operand.tmp 83), type := 4, pos := "outright.go:83", after := #[{ on := 9, ground := Ground.data }, { on := 2, ground := Ground.chain }], guard := none }) (v := ?_) rfl (by kernel_rfl) (by kernel_rfl) (by kernel_rfl) (fun _ _ _ h => h) (Or.inl ⟨by rfl, ?_⟩) hHeld ?_
  rotate_left
  · intro wz hSw; (try dsimp only at hSw); go_simp; try (with_reducible rfl)
  try simp only [Act.put, List.setIfInBounds_toArray, List.set_cons_zero, List.set_cons_succ]
  refine wpAnyH_take (i := 11) (oi := { dst := some 85, op := Op.move (Operand.tmp 14), type := 30, pos := "outright.go:83", after := #[{ on := 10, ground := Ground.guard }], guard := some (10, true) }) (v := ?_) rfl (by kernel_rfl) (by kernel_rfl) (by kernel_rfl) (fun _ _ _ h => h) (Or.inl ⟨by rfl, ?_⟩) hHeld ?_
  rotate_left
  · intro wz hSw; (try dsimp only at hSw); go_simp; try (with_reducible rfl)
  try simp only [Act.put, List.setIfInBounds_toArray, List.set_cons_zero, List.set_cons_succ]
  refine wpAnyH_take (i := 12) (oi := { dst := some 86, op := Op.binOp BinOp.eql 30 (Operand.tmp 85) (Operand.const (Value.int IntKind.i64 0)) 30, type := 4, pos := "outright.go:83", after := #[{ on := 11, ground := Ground.data }, { on := 10, ground := Ground.guard }], guard := some (10, true) }) (v := ?_) rfl (by kernel_rfl) (by kernel_rfl) (by kernel_rfl) (fun _ _ _ h => h) (Or.inl ⟨by rfl, ?_⟩) hHeld ?_
  rotate_left
  · intro wz hSw; (try dsimp only at hSw); go_simp; try (with_reducible rfl)
  try simp only [Act.put, List.setIfInBounds_toArray, List.set_cons_zero, List.set_cons_succ]
  refine wpAnyH_take (i := 13) (oi := { dst := some 87, op := Op.pick (Operand.tmp 84) (Operand.tmp 86) (Operand.const (Value.bool false)), type := 4, pos := "outright.go:83", after := #[{ on := 10, ground := Ground.data }, { on := 12, ground := Ground.data }], guard := none }) (v := ?_) rfl (by kernel_rfl) (by kernel_rfl) (by kernel_rfl) (fun _ _ _ h => h) (Or.inl ⟨by rfl, ?_⟩) hHeld ?_
  rotate_left
  · intro wz hSw; (try dsimp only at hSw); go_simp; try (with_reducible rfl)
  try simp only [Act.put, List.setIfInBounds_toArray, List.set_cons_zero, List.set_cons_succ]
  refine wpAnyH_take (i := 14) (oi := { dst := some 88, op := Op.move (Operand.tmp 87), type := 4, pos := "outright.go:83", after := #[{ on := 13, ground := Ground.data }, { on := 10, ground := Ground.chain }], guard := none }) (v := ?_) rfl (by kernel_rfl) (by kernel_rfl) (by kernel_rfl) (fun _ _ _ h => h) (Or.inl ⟨by rfl, ?_⟩) hHeld ?_
  rotate_left
  · intro wz hSw; (try dsimp only at hSw); go_simp; try (with_reducible rfl)
  try simp only [Act.put, List.setIfInBounds_toArray, List.set_cons_zero, List.set_cons_succ]
  refine wpAnyH_take (i := 15) (oi := { dst := some 89, op := Op.move (Operand.tmp 16), type := 30, pos := "outright.go:83", after := #[{ on := 14, ground := Ground.guard }], guard := some (14, true) }) (v := ?_) rfl (by kernel_rfl) (by kernel_rfl) (by kernel_rfl) (fun _ _ _ h => h) (Or.inl ⟨by rfl, ?_⟩) hHeld ?_
  rotate_left
  · intro wz hSw; (try dsimp only at hSw); go_simp; try (with_reducible rfl)
  try simp only [Act.put, List.setIfInBounds_toArray, List.set_cons_zero, List.set_cons_succ]
  refine wpAnyH_take (i := 16) (oi := { dst := some 90, op := Op.binOp BinOp.eql 30 (Operand.tmp 89) (Operand.const (Value.int IntKind.i64 0)) 30, type := 4, pos := "outright.go:83", after := #[{ on := 15, ground := Ground.data }, { on := 14, ground := Ground.guard }], guard := some (14, true) }) (v := ?_) rfl (by kernel_rfl) (by kernel_rfl) (by kernel_rfl) (fun _ _ _ h => h) (Or.inl ⟨by rfl, ?_⟩) hHeld ?_
  rotate_left
  · intro wz hSw; (try dsimp only at hSw); go_simp; try (with_reducible rfl)
  try simp only [Act.put, List.setIfInBounds_toArray, List.set_cons_zero, List.set_cons_succ]
  refine wpAnyH_take (i := 17) (oi := { dst := some 91, op := Op.pick (Operand.tmp 88) (Operand.tmp 90) (Operand.const (Value.bool false)), type := 4, pos := "outright.go:83", after := #[{ on := 14, ground := Ground.data }, { on := 16, ground := Ground.data }], guard := none }) (v := ?_) rfl (by kernel_rfl) (by kernel_rfl) (by kernel_rfl) (fun _ _ _ h => h) (Or.inl ⟨by rfl, ?_⟩) hHeld ?_
  rotate_left
  · intro wz hSw; (try dsimp only at hSw); go_simp; try (with_reducible rfl)
  try simp only [Act.put, List.setIfInBounds_toArray, List.set_cons_zero, List.set_cons_succ]
  refine wpAnyH_take (i := 18) (oi := { dst := some 92, op := Op.move (Operand.tmp 91), type := 4, pos := "outright.go:83", after := #[{ on := 17, ground := Ground.data }, { on := 14, ground := Ground.chain }], guard := none }) (v := ?_) rfl (by kernel_rfl) (by kernel_rfl) (by kernel_rfl) (fun _ _ _ h => h) (Or.inl ⟨by rfl, ?_⟩) hHeld ?_
  rotate_left
  · intro wz hSw; (try dsimp only at hSw); go_simp; try (with_reducible rfl)
  try simp only [Act.put, List.setIfInBounds_toArray, List.set_cons_zero, List.set_cons_succ]
  refine wpAnyH_take (i := 19) (oi := { dst := some 93, op := Op.move (Operand.tmp 13), type := 23, pos := "outright.go:83", after := #[{ on := 18, ground := Ground.guard }], guard := some (18, true) }) (v := ?_) rfl (by kernel_rfl) (by kernel_rfl) (by kernel_rfl) (fun _ _ _ h => h) (Or.inl ⟨by rfl, ?_⟩) hHeld ?_
  rotate_left
  · intro wz hSw; (try dsimp only at hSw); go_simp; try (with_reducible rfl)
  try simp only [Act.put, List.setIfInBounds_toArray, List.set_cons_zero, List.set_cons_succ]
  refine wpAnyH_take (i := 20) (oi := { dst := some 94, op := Op.convert 23 9 (Operand.tmp 93), type := 9, pos := "outright.go:83", after := #[{ on := 19, ground := Ground.data }, { on := 18, ground := Ground.guard }], guard := some (18, true) }) (v := ?_) rfl (by kernel_rfl) (by kernel_rfl) (by kernel_rfl) (fun _ _ _ h => h) (Or.inl ⟨by rfl, ?_⟩) hHeld ?_
  rotate_left
  · intro wz hSw; (try dsimp only at hSw); obtain ⟨N, hN⟩ := hSw; have fa := FA.out wz N hN; go_simp; try (with_reducible rfl)
  try simp only [Act.put, List.setIfInBounds_toArray, List.set_cons_zero, List.set_cons_succ]
  refine wpAnyH_take (i := 21) (oi := { dst := some 95, op := Op.move (Operand.tmp 15), type := 23, pos := "outright.go:83", after := #[{ on := 18, ground := Ground.guard }], guard := some (18, true) }) (v := ?_) rfl (by kernel_rfl) (by kernel_rfl) (by kernel_rfl) (fun _ _ _ h => h) (Or.inl ⟨by rfl, ?_⟩) hHeld ?_
  rotate_left
  · intro wz hSw; (try dsimp only at hSw); go_simp; try (with_reducible rfl)
  try simp only [Act.put, List.setIfInBounds_toArray, List.set_cons_zero, List.set_cons_succ]
  refine wpAnyH_take (i := 22) (oi := { dst := some 96, op := Op.convert 23 9 (Operand.tmp 95), type := 9, pos := "outright.go:83", after := #[{ on := 21, ground := Ground.data }, { on := 18, ground := Ground.guard }], guard := some (18, true) }) (v := ?_) rfl (by kernel_rfl) (by kernel_rfl) (by kernel_rfl) (fun _ _ _ h => h) (Or.inl ⟨by rfl, ?_⟩) hHeld ?_
  rotate_left
  · intro wz hSw; (try dsimp only at hSw); obtain ⟨N, hN⟩ := hSw; have fa := FB.out wz N hN; go_simp; try (with_reducible rfl)
  try simp only [Act.put, List.setIfInBounds_toArray, List.set_cons_zero, List.set_cons_succ]
  refine wpAnyH_take (i := 23) (oi := { dst := some 97, op := Op.binOp BinOp.eql 9 (Operand.tmp 94) (Operand.tmp 96) 9, type := 4, pos := "outright.go:83", after := #[{ on := 20, ground := Ground.data }, { on := 22, ground := Ground.data }, { on := 18, ground := Ground.guard }], guard := some (18, true) }) (v := ?_) rfl (by kernel_rfl) (by kernel_rfl) (by kernel_rfl) (fun _ _ _ h => h) (Or.inl ⟨by rfl, ?_⟩) hHeld ?_
  rotate_left
  · intro wz hSw; (try dsimp only at hSw); go_simp; try (with_reducible rfl)
  try simp only [Act.put, List.setIfInBounds_toArray, List.set_cons_zero, List.set_cons_succ]
  refine wpAnyH_take (i := 24) (oi := { dst := some 98, op := Op.pick (Operand.tmp 92) (Operand.tmp 97) (Operand.const (Value.bool false)), type := 4, pos := "outright.go:83", after := #[{ on := 18, ground := Ground.data }, { on := 23, ground := Ground.data }], guard := none }) (v := ?_) rfl (by kernel_rfl) (by kernel_rfl) (by kernel_rfl) (fun _ _ _ h => h) (Or.inl ⟨by rfl, ?_⟩) hHeld ?_
  rotate_left
  · intro wz hSw; (try dsimp only at hSw); go_simp; try (with_reducible rfl)
  try simp only [Act.put, List.setIfInBounds_toArray, List.set_cons_zero, List.set_cons_succ]
  refine wpAnyH_take (i := 25) (oi := { dst := some 99, op := Op.move (Operand.tmp 98), type := 4, pos := "outright.go:83", after := #[{ on := 24, ground := Ground.data }, { on := 18, ground := Ground.chain }], guard := none }) (v := ?_) rfl (by kernel_rfl) (by kernel_rfl) (by kernel_rfl) (fun _ _ _ h => h) (Or.inl ⟨by rfl, ?_⟩) hHeld ?_
  rotate_left
  · intro wz hSw; (try dsimp only at hSw); go_simp; try (with_reducible rfl)
  try simp only [Act.put, List.setIfInBounds_toArray, List.set_cons_zero, List.set_cons_succ]
  refine wpAnyH_take (i := 26) (oi := { dst := some 100, op := Op.move (Operand.tmp 13), type := 23, pos := "outright.go:83", after := #[{ on := 25, ground := Ground.guard }], guard := some (25, true) }) (v := ?_) rfl (by kernel_rfl) (by kernel_rfl) (by kernel_rfl) (fun _ _ _ h => h) (Or.inl ⟨by rfl, ?_⟩) hHeld ?_
  rotate_left
  · intro wz hSw; (try dsimp only at hSw); go_simp; try (with_reducible rfl)
  try simp only [Act.put, List.setIfInBounds_toArray, List.set_cons_zero, List.set_cons_succ]
  refine wpAnyH_take (i := 27) (oi := { dst := some 101, op := Op.move (Operand.tmp 11), type := 3, pos := "outright.go:83", after := #[{ on := 25, ground := Ground.guard }], guard := some (25, true) }) (v := ?_) rfl (by kernel_rfl) (by kernel_rfl) (by kernel_rfl) (fun _ _ _ h => h) (Or.inl ⟨by rfl, ?_⟩) hHeld ?_
  rotate_left
  · intro wz hSw; (try dsimp only at hSw); go_simp; try (with_reducible rfl)
  try simp only [Act.put, List.setIfInBounds_toArray, List.set_cons_zero, List.set_cons_succ]
  refine wpAnyH_take (i := 28) (oi := { dst := some 102, op := Op.slice 23 (Operand.tmp 100) none (some (Operand.tmp 101)) none, type := 23, pos := "outright.go:83", after := #[{ on := 26, ground := Ground.data }, { on := 27, ground := Ground.data }, { on := 25, ground := Ground.guard }], guard := some (25, true) }) (v := ?_) rfl (by kernel_rfl) (by kernel_rfl) (by kernel_rfl) (fun _ _ _ h => h) (Or.inl ⟨by rfl, ?_⟩) hHeld ?_
  rotate_left
  · intro wz hSw; (try dsimp only at hSw); go_simp; try (with_reducible rfl)
  try simp only [Act.put, List.setIfInBounds_toArray, List.set_cons_zero, List.set_cons_succ]
  refine wpAnyH_take (i := 29) (oi := { dst := some 103, op := Op.convert 23 9 (Operand.tmp 102), type := 9, pos := "outright.go:83", after := #[{ on := 28, ground := Ground.data }, { on := 25, ground := Ground.guard }], guard := some (25, true) }) (v := ?_) rfl (by kernel_rfl) (by kernel_rfl) (by kernel_rfl) (fun _ _ _ h => h) (Or.inl ⟨by rfl, ?_⟩) hHeld ?_
  rotate_left
  · intro wz hSw; (try dsimp only at hSw); obtain ⟨N, hN⟩ := hSw; have fa := FC.out wz N hN; go_simp; try (with_reducible rfl)
  try simp only [Act.put, List.setIfInBounds_toArray, List.set_cons_zero, List.set_cons_succ]
  refine wpAnyH_take (i := 30) (oi := { dst := some 104, op := Op.move (Operand.tmp 1), type := 23, pos := "outright.go:83", after := #[{ on := 25, ground := Ground.guard }], guard := some (25, true) }) (v := ?_) rfl (by kernel_rfl) (by kernel_rfl) (by kernel_rfl) (fun _ _ _ h => h) (Or.inl ⟨by rfl, ?_⟩) hHeld ?_
  rotate_left
  · intro wz hSw; (try dsimp only at hSw); go_simp; try (with_reducible rfl)
  try simp only [Act.put, List.setIfInBounds_toArray, List.set_cons_zero, List.set_cons_succ]
  refine wpAnyH_take (i := 31) (oi := { dst := some 105, op := Op.move (Operand.tmp 11), type := 3, pos := "outright.go:83", after := #[{ on := 25, ground := Ground.guard }], guard := some (25, true) }) (v := ?_) rfl (by kernel_rfl) (by kernel_rfl) (by kernel_rfl) (fun _ _ _ h => h) (Or.inl ⟨by rfl, ?_⟩) hHeld ?_
  rotate_left
  · intro wz hSw; (try dsimp only at hSw); go_simp; try (with_reducible rfl)
  try simp only [Act.put, List.setIfInBounds_toArray, List.set_cons_zero, List.set_cons_succ]
  refine wpAnyH_take (i := 32) (oi := { dst := some 106, op := Op.slice 23 (Operand.tmp 104) none (some (Operand.tmp 105)) none, type := 23, pos := "outright.go:83", after := #[{ on := 30, ground := Ground.data }, { on := 31, ground := Ground.data }, { on := 25, ground := Ground.guard }], guard := some (25, true) }) (v := ?_) rfl (by kernel_rfl) (by kernel_rfl) (by kernel_rfl) (fun _ _ _ h => h) (Or.inl ⟨by rfl, ?_⟩) hHeld ?_
  rotate_left
  · intro wz hSw; (try dsimp only at hSw); go_simp; try (with_reducible rfl)
  try simp only [Act.put, List.setIfInBounds_toArray, List.set_cons_zero, List.set_cons_succ]
  refine wpAnyH_take (i := 33) (oi := { dst := some 107, op := Op.convert 23 9 (Operand.tmp 106), type := 9, pos := "outright.go:83", after := #[{ on := 32, ground := Ground.data }, { on := 25, ground := Ground.guard }], guard := some (25, true) }) (v := ?_) rfl (by kernel_rfl) (by kernel_rfl) (by kernel_rfl) (fun _ _ _ h => h) (Or.inl ⟨by rfl, ?_⟩) hHeld ?_
  rotate_left
  · intro wz hSw; (try dsimp only at hSw); obtain ⟨N, hN⟩ := hSw; have fa := FD.out wz N hN; go_simp; try (with_reducible rfl)
  try simp only [Act.put, List.setIfInBounds_toArray, List.set_cons_zero, List.set_cons_succ]
  refine wpAnyH_take (i := 34) (oi := { dst := some 108, op := Op.binOp BinOp.eql 9 (Operand.tmp 103) (Operand.tmp 107) 9, type := 4, pos := "outright.go:83", after := #[{ on := 29, ground := Ground.data }, { on := 33, ground := Ground.data }, { on := 25, ground := Ground.guard }], guard := some (25, true) }) (v := ?_) rfl (by kernel_rfl) (by kernel_rfl) (by kernel_rfl) (fun _ _ _ h => h) (Or.inl ⟨by rfl, ?_⟩) hHeld ?_
  rotate_left
  · intro wz hSw; (try dsimp only at hSw); go_simp; try (with_reducible rfl)
  try simp only [Act.put, List.setIfInBounds_toArray, List.set_cons_zero, List.set_cons_succ]
  refine wpAnyH_take (i := 35) (oi := { dst := some 109, op := Op.pick (Operand.tmp 99) (Operand.tmp 108) (Operand.const (Value.bool false)), type := 4, pos := "outright.go:83", after := #[{ on := 25, ground := Ground.data }, { on := 34, ground := Ground.data }], guard := none }) (v := ?_) rfl (by kernel_rfl) (by kernel_rfl) (by kernel_rfl) (fun _ _ _ h => h) (Or.inl ⟨by rfl, ?_⟩) hHeld ?_
  rotate_left
  · intro wz hSw; (try dsimp only at hSw); go_simp; try (with_reducible rfl)
  try simp only [Act.put, List.setIfInBounds_toArray, List.set_cons_zero, List.set_cons_succ]
  refine wpAnyH_take (i := 36) (oi := { dst := some 110, op := Op.move (Operand.tmp 109), type := 4, pos := "outright.go:83", after := #[{ on := 35, ground := Ground.data }, { on := 25, ground := Ground.chain }], guard := none }) (v := ?_) rfl (by kernel_rfl) (by kernel_rfl) (by kernel_rfl) (fun _ _ _ h => h) (Or.inl ⟨by rfl, ?_⟩) hHeld ?_
  rotate_left
  · intro wz hSw; (try dsimp only at hSw); go_simp; try (with_reducible rfl)
  try simp only [Act.put, List.setIfInBounds_toArray, List.set_cons_zero, List.set_cons_succ]
  refine wpAnyH_take (i := 37) (oi := { dst := some 111, op := Op.move (Operand.tmp 6), type := 25, pos := "outright.go:83", after := #[{ on := 36, ground := Ground.guard }], guard := some (36, true) }) (v := ?_) rfl (by kernel_rfl) (by kernel_rfl) (by kernel_rfl) (fun _ _ _ h => h) (Or.inl ⟨by rfl, ?_⟩) hHeld ?_
  rotate_left
  · intro wz hSw; (try dsimp only at hSw); go_simp; try (with_reducible rfl)
  try simp only [Act.put, List.setIfInBounds_toArray, List.set_cons_zero, List.set_cons_succ]
  refine wpAnyH_take (i := 39) (oi := { dst := some 113, op := Op.move (Operand.tmp 5), type := 3, pos := "outright.go:83", after := #[{ on := 36, ground := Ground.guard }], guard := some (36, true) }) (v := ?_) rfl (by kernel_rfl) (by kernel_rfl) (by kernel_rfl) (fun _ _ _ h => h) (Or.inl ⟨by rfl, ?_⟩) hHeld ?_
  rotate_left
  · intro wz hSw; (try dsimp only at hSw); go_simp; try (with_reducible rfl)
  try simp only [Act.put, List.setIfInBounds_toArray, List.set_cons_zero, List.set_cons_succ]
  refine wpAnyH_take (i := 40) (oi := { dst := some 114, op := Op.binOp BinOp.add 3 (Operand.tmp 113) (Operand.const (Value.int IntKind.i64 1)) 3, type := 3, pos := "outright.go:83", after := #[{ on := 39, ground := Ground.data }, { on := 36, ground := Ground.guard }], guard := some (36, true) }) (v := ?_) rfl (by kernel_rfl) (by kernel_rfl) (by kernel_rfl) (fun _ _ _ h => h) (Or.inl ⟨by rfl, ?_⟩) hHeld ?_
  rotate_left
  · intro wz hSw; (try dsimp only at hSw); go_simp; try (with_reducible rfl)
  try simp only [Act.put, List.setIfInBounds_toArray, List.set_cons_zero, List.set_cons_succ]
  obtain ⟨q80, q81⟩ := (S8.out.blk 3 rfl).two
  refine wpAnyH_ready (rs := [38]) (by kernel_rfl) (by simp) ?_
  refine AllReadyH.cons (o := { dst := some 112, op := Op.load 40 (Operand.tmp 8), type := 40, pos := "outright.go:83", after := #[{ on := 36, ground := Ground.guard }], guard := some (36, true) }) rfl (fun K hK => ?_) AllReadyH.nil
  go_simp
  refine hK.out _ _ ?_ (fun hHeld => ?_)
  · exact ⟨[_], S8.out⟩
  clear hK K
  try simp only [Act.put, List.setIfInBounds_toArray, List.set_cons_zero, List.set_cons_succ]
  refine wpAnyH_take (i := 41) (oi := { dst := some 115, op := Op.build 42 #[(0, Operand.tmp 112), (2, Operand.tmp 114)], type := 42, pos := "outright.go:83", after := #[{ on := 38, ground := Ground.data }, { on := 40, ground := Ground.data }, { on := 36, ground := Ground.guard }], guard := some (36, true) }) (v := ?_) rfl (by kernel_rfl) (by kernel_rfl) (by kernel_rfl) (fun _ _ _ h => h) (Or.inl ⟨by rfl, ?_⟩) hHeld ?_
  rotate_left
  · intro wz hSw; (try dsimp only at hSw); go_simp; try (with_reducible rfl)
  try simp only [Act.put, List.setIfInBounds_toArray, List.set_cons_zero, List.set_cons_succ]
  refine wpAnyH_ready (rs := [42]) (by kernel_rfl) (by simp) ?_
  refine AllReadyH.cons (o := { dst := some 116, op := Op.buildSlice 22 1 #[(0, Operand.tmp 115)], type := 22, pos := "outright.go:83", after := #[{ on := 41, ground := Ground.data }, { on := 36, ground := Ground.guard }], guard := some (36, true) }) rfl (fun K hK => ?_) AllReadyH.nil
  go_simp
  refine hK.out _ _ ?_ (fun hHeld => ?_)
  · exact ⟨[_], S8.out.alloc _⟩
  clear hK K
  try simp only [Act.put, List.setIfInBounds_toArray, List.set_cons_zero, List.set_cons_succ]
  refine wpAnyH_ready (rs := [43]) (by kernel_rfl) (by simp) ?_
  refine AllReadyH.cons (o := { dst := some 117, op := Op.call { callee := Callee.value (Operand.func 9), args := #[Operand.tmp 111, Operand.tmp 116], argTypes := #[25, 22] }, type := 4, pos := "outright.go:83", after := #[{ on := 37, ground := Ground.data }, { on := 42, ground := Ground.data }, { on := 36, ground := Ground.chain }, { on := 36, ground := Ground.guard }], guard := some (36, true) }) rfl (fun K hK => ?_) AllReadyH.nil
  go_simp
  refine (M1.out _ _ S8.out).mono ?_
  rintro e w9 ⟨rfl, s9⟩
  have S9 := Lib.hid s9
  go_wp2_with fail
  refine hK.out _ _ ?_ (fun hHeld => ?_)
  · exact ⟨[_], S9.out⟩
  clear hK K
  try simp only [Act.put, List.setIfInBounds_toArray, List.set_cons_zero, List.set_cons_succ]
  clear q80 q81
  refine wpAnyH_take (i := 44) (oi := { dst := some 118, op := Op.unOp UnOp.not 4 (Operand.tmp 117), type := 4, pos := "outright.go:83", after := #[{ on := 43, ground := Ground.data }, { on := 36, ground := Ground.guard }], guard := some (36, true) }) (v := ?_) rfl (by kernel_rfl) (by kernel_rfl) (by kernel_rfl) (fun _ _ _ h => h) (Or.inl ⟨by rfl, ?_⟩) hHeld ?_
  rotate_left
  · intro wz hSw; (try dsimp only at hSw); go_simp; try (with_reducible rfl)
  try simp only [Act.put, List.setIfInBounds_toArray, List.set_cons_zero, List.set_cons_succ]
  refine wpAnyH_take (i := 45) (oi := { dst := some 119, op := Op.pick (Operand.tmp 110) (Operand.tmp 118) (Operand.const (Value.bool false)), type := 4, pos := "outright.go:83", after := #[{ on := 36, ground := Ground.data }, { on := 44, ground := Ground.data }], guard := none }) (v := ?_) rfl (by kernel_rfl) (by kernel_rfl) (by kernel_rfl) (fun _ _ _ h => h) (Or.inl ⟨by rfl, ?_⟩) hHeld ?_
  rotate_left
  · intro wz hSw; (try dsimp only at hSw); go_simp; try (with_reducible rfl)
  try simp only [Act.put, List.setIfInBounds_toArray, List.set_cons_zero, List.set_cons_succ]
  refine wpAnyH_take (i := 46) (oi := { dst := some 120, op := Op.move (Operand.tmp 119), type := 4, pos := "outright.go:83", after := #[{ on := 45, ground := Ground.data }, { on := 43, ground := Ground.chain }], guard := none }) (v := ?_) rfl (by kernel_rfl) (by kernel_rfl) (by kernel_rfl) (fun _ _ _ h => h) (Or.inl ⟨by rfl, ?_⟩) hHeld ?_
  rotate_left
  · intro wz hSw; (try dsimp only at hSw); go_simp; try (with_reducible rfl)
  try simp only [Act.put, List.setIfInBounds_toArray, List.set_cons_zero, List.set_cons_succ]
  refine wpAnyH_take (i := 47) (oi := { dst := some 121, op := Op.move (Operand.tmp 6), type := 25, pos := "outright.go:83", after := #[{ on := 46, ground := Ground.guard }], guard := some (46, true) }) (v := ?_) rfl (by kernel_rfl) (by kernel_rfl) (by kernel_rfl) (fun _ _ _ h => h) (Or.inl ⟨by rfl, ?_⟩) hHeld ?_
  rotate_left
  · intro wz hSw; (try dsimp only at hSw); go_simp; try (with_reducible rfl)
  try simp only [Act.put, List.setIfInBounds_toArray, List.set_cons_zero, List.set_cons_succ]
  refine wpAnyH_take (i := 49) (oi := { dst := some 123, op := Op.move (Operand.tmp 5), type := 3, pos := "outright.go:83", after := #[{ on := 46, ground := Ground.guard }], guard := some (46, true) }) (v := ?_) rfl (by kernel_rfl) (by kernel_rfl) (by kernel_rfl) (fun _ _ _ h => h) (Or.inl ⟨by rfl, ?_⟩) hHeld ?_
  rotate_left
  · intro wz hSw; (try dsimp only at hSw); go_simp; try (with_reducible rfl)
  try simp only [Act.put, List.setIfInBounds_toArray, List.set_cons_zero, List.set_cons_succ]
  obtain ⟨q90, q91⟩ := (S9.out.blk 3 rfl).two
  refine wpAnyH_ready (rs := [48]) (by kernel_rfl) (by simp) ?_
  refine AllReadyH.cons (o := { dst := some 122, op := Op.load 40 (Operand.tmp 8), type := 40, pos := "outright.go:83", after := #[{ on := 46, ground := Ground.guard }], guard := some (46, true) }) rfl (fun K hK => ?_) AllReadyH.nil
  go_simp
  refine hK.out _ _ ?_ (fun hHeld => ?_)
  · exact ⟨[_], S9.out⟩
  clear hK K
  try simp only [Act.put, List.setIfInBounds_toArray, List.set_cons_zero, List.set_cons_succ]
  refine wpAnyH_take (i := 50) (oi := { dst := some 124, op := Op.build 42 #[(0, Operand.tmp 122), (1, Operand.const (Value.int IntKind.i64 1)), (2, Operand.tmp 123)], type := 42, pos := "outright.go:83", after := #[{ on := 48, ground := Ground.data }, { on := 49, ground := Ground.data }, { on := 46, ground := Ground.guard }], guard := some (46, true) }) (v := ?_) rfl (by kernel_rfl) (by kernel_rfl) (by kernel_rfl) (fun _ _ _ h => h) (Or.inl ⟨by rfl, ?_⟩) hHeld ?_
  rotate_left
  · intro wz hSw; (try dsimp only at hSw); go_simp; try (with_reducible rfl)
  try simp only [Act.put, List.setIfInBounds_toArray, List.set_cons_zero, List.set_cons_succ]
  refine wpAnyH_ready (rs := [51]) (by kernel_rfl) (by simp) ?_
  refine AllReadyH.cons (o := { dst := some 125, op := Op.buildSlice 22 1 #[(0, Operand.tmp 124)], type := 22, pos := "outright.go:83", after := #[{ on := 50, ground := Ground.data }, { on := 46, ground := Ground.guard }], guard := some (46, true) }) rfl (fun K hK => ?_) AllReadyH.nil
  go_simp
  refine hK.out _ _ ?_ (fun hHeld => ?_)
  · exact ⟨[_], S9.out.alloc _⟩
  clear hK K
  try simp only [Act.put, List.setIfInBounds_toArray, List.set_cons_zero, List.set_cons_succ]
  refine wpAnyH_ready (rs := [52]) (by kernel_rfl) (by simp) ?_
  refine AllReadyH.cons (o := { dst := some 126, op := Op.call { callee := Callee.value (Operand.func 9), args := #[Operand.tmp 121, Operand.tmp 125], argTypes := #[25, 22] }, type := 4, pos := "outright.go:83", after := #[{ on := 47, ground := Ground.data }, { on := 51, ground := Ground.data }, { on := 46, ground := Ground.chain }, { on := 46, ground := Ground.guard }], guard := some (46, true) }) rfl (fun K hK => ?_) AllReadyH.nil
  go_simp
  refine (M2.out _ _ S9.out).mono ?_
  rintro e w10 ⟨rfl, s10⟩
  have S10 := Lib.hid s10
  go_wp2_with fail
  refine hK.out _ _ ?_ (fun hHeld => ?_)
  · exact ⟨[_], S10.out⟩
  clear hK K
  try simp only [Act.put, List.setIfInBounds_toArray, List.set_cons_zero, List.set_cons_succ]
  clear q90 q91
  refine wpAnyH_take (i := 53) (oi := { dst := some 127, op := Op.unOp UnOp.not 4 (Operand.tmp 126), type := 4, pos := "outright.go:83", after := #[{ on := 52, ground := Ground.data }, { on := 46, ground := Ground.guard }], guard := some (46, true) }) (v := ?_) rfl (by kernel_rfl) (by kernel_rfl) (by kernel_rfl) (fun _ _ _ h => h) (Or.inl ⟨by rfl, ?_⟩) hHeld ?_
  rotate_left
  · intro wz hSw; (try dsimp only at hSw); go_simp; try (with_reducible rfl)
  try simp only [Act.put, List.setIfInBounds_toArray, List.set_cons_zero, List.set_cons_succ]
  refine wpAnyH_take (i := 54) (oi := { dst := some 128, op := Op.pick (Operand.tmp 120) (Operand.tmp 127) (Operand.const (Value.bool false)), type := 4, pos := "outright.go:83", after := #[{ on := 46, ground := Ground.data }, { on := 53, ground := Ground.data }], guard := none }) (v := ?_) rfl (by kernel_rfl) (by kernel_rfl) (by kernel_rfl) (fun _ _ _ h => h) (Or.inl ⟨by rfl, ?_⟩) hHeld ?_
  rotate_left
  · intro wz hSw; (try dsimp only at hSw); go_simp; try (with_reducible rfl)
  try simp only [Act.put, List.setIfInBounds_toArray, List.set_cons_zero, List.set_cons_succ]
  refine wpAnyH_take (i := 55) (oi := { dst := some 129, op := Op.move (Operand.tmp 128), type := 4, pos := "outright.go:83", after := #[{ on := 54, ground := Ground.data }, { on := 52, ground := Ground.chain }], guard := none }) (v := ?_) rfl (by kernel_rfl) (by kernel_rfl) (by kernel_rfl) (fun _ _ _ h => h) (Or.inl ⟨by rfl, ?_⟩) hHeld ?_
  rotate_left
  · intro wz hSw; (try dsimp only at hSw); go_simp; try (with_reducible rfl)
  try simp only [Act.put, List.setIfInBounds_toArray, List.set_cons_zero, List.set_cons_succ]
  refine wpAnyH_take (i := 56) (oi := { dst := some 130, op := Op.move (Operand.tmp 6), type := 25, pos := "outright.go:83", after := #[{ on := 55, ground := Ground.guard }], guard := some (55, true) }) (v := ?_) rfl (by kernel_rfl) (by kernel_rfl) (by kernel_rfl) (fun _ _ _ h => h) (Or.inl ⟨by rfl, ?_⟩) hHeld ?_
  rotate_left
  · intro wz hSw; (try dsimp only at hSw); go_simp; try (with_reducible rfl)
  try simp only [Act.put, List.setIfInBounds_toArray, List.set_cons_zero, List.set_cons_succ]
  refine wpAnyH_take (i := 57) (oi := { dst := some 131, op := Op.move (Operand.tmp 10), type := 22, pos := "outright.go:83", after := #[{ on := 55, ground := Ground.guard }], guard := some (55, true) }) (v := ?_) rfl (by kernel_rfl) (by kernel_rfl) (by kernel_rfl) (fun _ _ _ h => h) (Or.inl ⟨by rfl, ?_⟩) hHeld ?_
  rotate_left
  · intro wz hSw; (try dsimp only at hSw); go_simp; try (with_reducible rfl)
  try simp only [Act.put, List.setIfInBounds_toArray, List.set_cons_zero, List.set_cons_succ]
  refine wpAnyH_take (i := 58) (oi := { dst := some 132, op := Op.move (Operand.tmp 10), type := 22, pos := "outright.go:83", after := #[{ on := 55, ground := Ground.guard }], guard := some (55, true) }) (v := ?_) rfl (by kernel_rfl) (by kernel_rfl) (by kernel_rfl) (fun _ _ _ h => h) (Or.inl ⟨by rfl, ?_⟩) hHeld ?_
  rotate_left
  · intro wz hSw; (try dsimp only at hSw); go_simp; try (with_reducible rfl)
  try simp only [Act.put, List.setIfInBounds_toArray, List.set_cons_zero, List.set_cons_succ]
  refine wpAnyH_take (i := 59) (oi := { dst := some 133, op := Op.indexAddr 22 (Operand.tmp 132) (Operand.const (Value.int IntKind.i64 0)), type := 0, pos := "outright.go:83", after := #[{ on := 58, ground := Ground.data }, { on := 55, ground := Ground.guard }], guard := some (55, true) }) (v := ?_) rfl (by kernel_rfl) (by kernel_rfl) (by kernel_rfl) (fun _ _ _ h => h) (Or.inl ⟨by rfl, ?_⟩) hHeld ?_
  rotate_left
  · intro wz hSw; (try dsimp only at hSw); go_simp; try (with_reducible rfl)
  try simp only [Act.put, List.setIfInBounds_toArray, List.set_cons_zero, List.set_cons_succ]
  obtain ⟨g, off, eg, -, x0, x1, x2, x3⟩ := rdp_lis (S10.out.lis 4 rfl) 0 _ rfl
  injection eg with eg
  injection eg with e1 e2
  subst e1 e2
  simp only [Nat.zero_mul, Nat.zero_add] at x0 x1 x2 x3
  refine wpAnyH_ready (rs := [60]) (by kernel_rfl) (by simp) ?_
  refine AllReadyH.cons (o := { dst := some 134, op := Op.load 42 (Operand.tmp 133), type := 42, pos := "outright.go:83", after := #[{ on := 59, ground := Ground.data }, { on := 55, ground := Ground.guard }], guard := some (55, true) }) rfl (fun K hK => ?_) AllReadyH.nil
  go_simp
  refine hK.out _ _ ?_ (fun hHeld => ?_)
  · exact ⟨[_], S10.out⟩
  clear hK K
  try simp only [Act.put, List.setIfInBounds_toArray, List.set_cons_zero, List.set_cons_succ]
  refine wpAnyH_ready (rs := [61]) (by kernel_rfl) (by simp) ?_
  refine AllReadyH.cons (o := { dst := some 135, op := Op.buildSlice 22 1 #[(0, Operand.tmp 134)], type := 22, pos := "outright.go:83", after := #[{ on := 60, ground := Ground.data }, { on := 55, ground := Ground.guard }], guard := some (55, true) }) rfl (fun K hK => ?_) AllReadyH.nil
  go_simp
  refine hK.out _ _ ?_ (fun hHeld => ?_)
  · exact ⟨[_], S10.out.alloc _⟩
  clear hK K
  try simp only [Act.put, List.setIfInBounds_toArray, List.set_cons_zero, List.set_cons_succ]
  refine wpAnyH_ready (rs := [62]) (by kernel_rfl) (by simp) ?_
  refine AllReadyH.cons (o := { dst := some 136, op := Op.call { callee := Callee.builtin Builtin.append, args := #[Operand.tmp 131, Operand.tmp 135], argTypes := #[22, 22] }, type := 22, pos := "outright.go:83", after := #[{ on := 57, ground := Ground.data }, { on := 61, ground := Ground.data }, { on := 55, ground := Ground.chain }, { on := 55, ground := Ground.guard }], guard := some (55, true) }) rfl (fun K hK => ?_) AllReadyH.nil
  refine step_lis_g (by rfl) _ _ _ (by rfl) iP (.agg #[.int .i64 0, .int .u64 0, .int .i64 0, .int .i64 0]) 32 Try.underlying22 hiP hzP hsP hbP (by rfl) (by omega) (.slice (some ⟨w3.heap.size + 1, 0, none⟩) 1 1) 1 (pcl [qW n]) (by rfl) ((S10.out.alloc _).lis 4 rfl) (some ⟨w10.heap.size, 0, none⟩) 1 1 (pcl [qW n]) (by rfl) rds_pcl (fun u hu => by have hu : u ∈ [Value.int .i64 (qW n).s, .int .u64 (qW n).g, .int .i64 (qW n).f, .int .i64 (qW n).m] := hu; simp at hu; rcases hu with rfl | rfl | rfl | rfl <;> rfl) (by unfold maxLen; omega) (by omega) ?_
  intro B5 c5 w11 hl hg hat
  have s11 := (S10.out.alloc _).lis_put 4 rfl hl hg hat
  have S11 := Lib.hid (show St w None w11 ([PoolR p 1 st2] ++ [LisR 5 1 (.slice A2 C.length c2) C.length (bys C), LisR 5 1 (.slice A1 C.length c1) C.length (bys C), BlkR w3.heap.size 40 #[.int .i64 0, .int .u64 1], LisR 42 4 (.slice B5 [qW n, qW n].length c5) [qW n, qW n].length (pcl [qW n, qW n])]) from s11)
  clear hl hg hat s11 x0 x1 x2 x3
  refine hK.out _ _ ⟨[_], S11.out⟩ (fun hHeld => ?_)
  clear hK K
  try simp only [Act.put, List.setIfInBounds_toArray, List.set_cons_zero, List.set_cons_succ]
  have M3 := may_lis S11.out OK2.out [qW n, qW n] 3 rfl
  rw [HF3.out] at M3
  replace M3 := Lib.hid M3
  refine wpAnyH_ready (rs := [63]) (by kernel_rfl) (by simp) ?_
  refine AllReadyH.cons (o := { dst := some 137, op := Op.call { callee := Callee.value (Operand.func 9), args := #[Operand.tmp 130, Operand.tmp 136], argTypes := #[25, 22] }, type := 4, pos := "outright.go:83", after := #[{ on := 56, ground := Ground.data }, { on := 62, ground := Ground.data }, { on := 62, ground := Ground.chain }, { on := 55, ground := Ground.guard }], guard := some (55, true) }) rfl (fun K hK => ?_) AllReadyH.nil
  go_simp
  refine M3.out.mono ?_
  rintro e w12 ⟨rfl, s12⟩
  have S12 := Lib.hid s12
  go_wp2_with fail
  refine hK.out _ _ ?_ (fun hHeld => ?_)
  · exact ⟨[_], S12.out⟩
  clear hK K
  try simp only [Act.put, List.setIfInBounds_toArray, List.set_cons_zero, List.set_cons_succ]
  refine wpAnyH_take (i := 64) (oi := { dst := some 138, op := Op.unOp UnOp.not 4 (Operand.tmp 137), type := 4, pos := "outright.go:83", after := #[{ on := 63, ground := Ground.data }, { on := 55, ground := Ground.guard }], guard := some (55, true) }) (v := ?_) rfl (by kernel_rfl) (by kernel_rfl) (by kernel_rfl) (fun _ _ _ h => h) (Or.inl ⟨by rfl, ?_⟩) hHeld ?_
  rotate_left
  · intro wz hSw; (try dsimp only at hSw); go_simp; try (with_reducible rfl)
  try simp only [Act.put, List.setIfInBounds_toArray, List.set_cons_zero, List.set_cons_succ]
  refine wpAnyH_take (i := 65) (oi := { dst := some 139, op := Op.pick (Operand.tmp 129) (Operand.tmp 138) (Operand.const (Value.bool false)), type := 4, pos := "outright.go:83", after := #[{ on := 55, ground := Ground.data }, { on := 64, ground := Ground.data }], guard := none }) (v := ?_) rfl (by kernel_rfl) (by kernel_rfl) (by kernel_rfl) (fun _ _ _ h => h) (Or.inl ⟨by rfl, ?_⟩) hHeld ?_
  rotate_left
  · intro wz hSw; (try dsimp only at hSw); go_simp; try (with_reducible rfl)
  try simp only [Act.put, List.setIfInBounds_toArray, List.set_cons_zero, List.set_cons_succ]
  refine wpAnyH_take (i := 66) (oi := { dst := some 4, op := Op.assign (Operand.tmp 139), type := 4, pos := "outright.go:83", after := ([{ on := 65, ground := Ground.data }, { on := 63, ground := Ground.chain }, { on := 0, ground := Ground.phase }, { on := 1, ground := Ground.phase }, { on := 2, ground := Ground.phase }, { on := 3, ground := Ground.phase }, { on := 4, ground := Ground.phase }, { on := 5, ground := Ground.phase }, { on := 6, ground := Ground.phase }, { on := 7, ground := Ground.phase }, { on := 8, ground := Ground.phase }, { on := 9, ground := Ground.phase }, { on := 10, ground := Ground.phase }, { on := 11, ground := Ground.phase }, { on := 12, ground := Ground.phase }, { on := 13, ground := Ground.phase }, { on := 14, ground := Ground.phase }, { on := 15, ground := Ground.phase }, { on := 16, ground := Ground.phase }, { on := 17, ground := Ground.phase }, { on := 18, ground := Ground.phase }, { on := 19, ground := Ground.phase }, { on := 20, ground := Ground.phase }, { on := 21, ground := Ground.phase }, { on := 22, ground := Ground.phase }, { on := 23, ground := Ground.phase }, { on := 24, ground := Ground.phase }, { on := 25, ground := Ground.phase }, { on := 26, ground := Ground.phase }, { on := 27, ground := Ground.phase }, { on := 28, ground := Ground.phase }, { on := 29, ground := Ground.phase }, { on := 30, ground := Ground.phase }, { on := 31, ground := Ground.phase }].append [{ on := 32, ground := Ground.phase }, { on := 33, ground := Ground.phase }, { on := 34, ground := Ground.phase }, { on := 35, ground := Ground.phase }, { on := 36, ground := Ground.phase }, { on := 37, ground := Ground.phase }, { on := 38, ground := Ground.phase }, { on := 39, ground := Ground.phase }, { on := 40, ground := Ground.phase }, { on := 41, ground := Ground.phase }, { on := 42, ground := Ground.phase }, { on := 43, ground := Ground.phase }, { on := 44, ground := Ground.phase }, { on := 45, ground := Ground.phase }, { on := 46, ground := Ground.phase }, { on := 47, ground := Ground.phase }, { on := 48, ground := Ground.phase }, { on := 49, ground := Ground.phase }, { on := 50, ground := Ground.phase }, { on := 51, ground := Ground.phase }, { on := 52, ground := Ground.phase }, { on := 53, ground := Ground.phase }, { on := 54, ground := Ground.phase }, { on := 55, ground := Ground.phase }, { on := 56, ground := Ground.phase }, { on := 57, ground := Ground.phase }, { on := 58, ground := Ground.phase }, { on := 59, ground := Ground.phase }, { on := 60, ground := Ground.phase }, { on := 61, ground := Ground.phase }, { on := 62, ground := Ground.phase }, { on := 63, ground := Ground.phase }, { on := 64, ground := Ground.phase }, { on := 65, ground := Ground.phase }]).toArray, guard := none }) (v := ?_) rfl (by kernel_rfl) (by kernel_rfl) (by kernel_rfl) (fun _ _ _ h => h) (Or.inl ⟨by rfl, ?_⟩) hHeld ?_
  rotate_left
  · intro wz hSw; (try dsimp only at hSw); go_simp; try (with_reducible rfl)
  try simp only [Act.put, List.setIfInBounds_toArray, List.set_cons_zero, List.set_cons_succ]
  refine wpAnyH_done (by kernel_rfl) ?_ _
  go_wp2_with fail
  go_ret
  exact ⟨rfl, S12.out.below⟩
    --NEG

set_option maxRecDepth 100000 in
theorem lifted (os : Os) (started : os.Started) (H : Type) (enc : TypeId × Value → H) :
    ReturnsInHanded {} Try.checked os 6 .any (Rows.piecesWholeSpec.pre6 enc Try.prog Try.f6 Rows.piecesWholeRow.domain false) (Rows.piecesWholeSpec.post enc Try.prog Try.f6 false true false false) := by
  refine law_lifted (C := Try.checked) (tb := 4) own started (by kernel_rfl) Try.func6
    (ChangeSpec.witness6 (enc := enc) (C := Try.checked) false ⟨#[], #[.int .u8 0, .slice none 0 0], []⟩ 8 (by kernel_rfl) (by kernel_rfl) (by kernel_rfl) (by kernel_rfl)) laid (by kernel_rfl) (by kernel_rfl) Try.underlying4 rfl ?_
  intro W base args ds ps hval0 hA0 hlt
  have hval : ∀ (j : Nat) t v, Try.f6.params[j]? = some t → args[j]? = some v → Value.okWide Try.prog W .any base t v := hval0
  have hA : DataW.TrodAll enc Try.prog W 0 (fun _ => true) true Try.f6.params.toList args.toList ds ps := hA0
  clear hA0 hval0
  rw [Try.params6] at hA hval
  obtain ⟨v0, vs0, d0, ds0, p0, q0, hargs, rfl, rfl, h0, r0⟩ := trodAll_cons hA
  obtain ⟨v1, vs1, d1, ds1, p1, q1, rfl, rfl, rfl, h1, r1⟩ := trodAll_cons r0
  obtain ⟨rfl, rfl, rfl⟩ := trodAll_nil r1
  obtain rfl : args = #[v0, v1] := by cases args; simp_all
  obtain ⟨a0, rfl, rfl, rfl, w0⟩ := open_int Try.underlying5 (hval 0 5 v0 rfl rfl) h0
  obtain ⟨A1, n1, cap1, f1, rfl, le1, mx1, wf1, rd1⟩ := open_slice_ints Try.underlying23 Try.underlying5 (by kernel_rfl) (hval 1 23 v1 rfl rfl) h1
  refine ⟨⟨rfl, rfl, rfl⟩, ?_⟩
  have hl1 : ((List.range n1).map f1).length = n1 := by simp
  have hw := walk a0 A1 cap1 ((List.range n1).map f1) W (bounds_u8 w0) (by rw [hl1]; omega) (by omega) (by rw [hl1]; exact rds_of_rd rd1)
  rw [hl1] at hw
  exact hw

theorem over : Rows.piecesWholeRow.holds Try.pinned (OpenSpec.ofChange Rows.piecesWholeSpec) :=
  OpenClaim.holds_of_wide 6 Try.f6 rfl rfl rfl rfl rfl rfl rfl ⟨rfl, rfl, rfl, rfl, rfl⟩ rfl rfl rfl rfl rfl (by kernel_rfl) Try.func6 (by kernel_rfl)
    (of_decide_eq_true (by kernel_rfl)) (by unfold Func.isWrapper; first | (rw [if_pos (by decide +kernel)]; kernel_rfl) | (rw [if_neg (by decide +kernel)]; exact ⟨rfl, rfl⟩))
    (fun os started H enc _ => lifted os started H enc)
theorem proved : Rows.PiecesWholeSaid := over
#print axioms proved
end Go.Proofs.Ytiaojhjghededaa.piecesWhole
