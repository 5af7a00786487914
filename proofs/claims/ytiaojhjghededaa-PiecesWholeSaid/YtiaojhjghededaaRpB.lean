/- Layer 7: the document's own pool is made. -/
import Derived.Test.YtiaojhjghededaaRpA
namespace Go.Proofs.Ytiaojhjghededaa
open Go.RowKit
set_option linter.unusedVariables false
set_option maxRecDepth 100000
set_option maxHeartbeats 3200000
theorem Try.infoRpG : (Try.prog.info? 38).map (fun i => (i.zero, i.size, i.bytes)) = some (some (.int .u64 0), 1, 8) := by kernel_rfl
theorem Try.infoRpI : (Try.prog.info? 3).map (fun i => (i.zero, i.size, i.bytes)) = some (some (.int .i64 0), 1, 8) := by kernel_rfl
theorem Try.infoRpS : (Try.prog.info? 23).map (fun i => (i.zero, i.size, i.bytes)) = some (some (.slice none 0 0), 1, 24) := by kernel_rfl
theorem rds_box_set (w : World) (p : Addr) (u : Value) (e : TypeId) (v : Value) : Rds ((w.setCell p u).alloc (.cells #[v] e)) (some ⟨w.heap.size, 0, none⟩) 1 1 [v] := by
  have h := rds_box (w.setCell p u) e v
  rwa [show (w.setCell p u).heap.size = w.heap.size by simp [World.setCell]] at h
section
variable {w0 w : World} {S S0 : Nat → Prop} {N L : List Res} {A : Option Addr} {n cap r : Nat} {zs : List Nat} {V : Nat → Nat → Value} {Z C : Nat → Int}
/-- One buffer more. -/
theorem rp_snoc {G O F B : Option Addr} {gc oc fc bc g m : Nat} {X : Nat → Option Addr × Nat} (hm : m ≤ 65536)
    (h : St w0 S0 w (([BlkR r 85 #[.slice G (zs.length + 1) gc, .slice O (zs.length + 1) oc, .slice F (zs.length + 1) fc, .slice B (zs.length + 1) bc],
      LisR 38 1 (.slice G (zs.length + 1) gc) (zs.length + 1) (rng zs.length (rpG (fresh zs)) ++ [.int .u64 1]), LisR 3 1 (.slice O (zs.length + 1) oc) (zs.length + 1) (rng zs.length (rpO (fresh zs)) ++ [.int .i64 0]),
      LisR 3 1 (.slice F (zs.length + 1) fc) (zs.length + 1) (rng zs.length (rpF (fresh zs)) ++ [.int .i64 0]), LisR 23 1 (.slice B (zs.length + 1) bc) (zs.length + 1) (rng zs.length (rpV X (fresh zs)) ++ [.slice (some ⟨g, 0, none⟩) m m])] ++
      (List.range zs.length).map (fun i => LisR 5 1 (rpV X (fresh zs) i) (fresh zs i).bs.length (bys (fresh zs i).bs))) ++ [ArrR g 5 m (fun _ => .int .u8 0)])) :
    ∃ X', St w0 S0 w (RpL r ⟨G, O, F, B, gc, oc, fc, bc, X'⟩ (zs ++ [m]).length (fresh (zs ++ [m]))) := by
  refine ⟨fun j => if j = zs.length then (some ⟨g, 0, none⟩, m) else X j, ?_⟩
  have hf := h.fam_snoc (F' := fun i => LisR 5 1 (rpV (fun j => if j = zs.length then (some ⟨g, 0, none⟩, m) else X j) (fresh (zs ++ [m])) i) (fresh (zs ++ [m]) i).bs.length (bys (fresh (zs ++ [m]) i).bs)) (LisR.ok _ _ _ _ _) (fun i hi => by
    have : ¬ i = zs.length := by omega
    unfold rpV
    dsimp only
    rw [fresh_old zs m hi, if_neg this]) (fun S h => by
    unfold rpV
    dsimp only
    rw [fresh_new, if_pos rfl]
    show LisR 5 1 (.slice (some ⟨g, 0, none⟩) (List.replicate m (0 : Int)).length m) (List.replicate m (0 : Int)).length (bys (List.replicate m 0)) w S
    rw [List.length_replicate]
    exact arr_lis_res h (by unfold maxLen; omega) (by simp [bys]) (fun j hj => by simp [bys, hj]))
  have e1 : rng (zs.length + 1) (rpG (fresh (zs ++ [m]))) = rng zs.length (rpG (fresh zs)) ++ [.int .u64 1] := by
    rw [rng_snoc, rng_like (f := rpG (fresh (zs ++ [m]))) (g := rpG (fresh zs)) (fun i hi => by unfold rpG; rw [fresh_old zs m hi])]
    unfold rpG; rw [fresh_new]
  have e2 : rng (zs.length + 1) (rpO (fresh (zs ++ [m]))) = rng zs.length (rpO (fresh zs)) ++ [.int .i64 0] := by
    rw [rng_snoc, rng_like (f := rpO (fresh (zs ++ [m]))) (g := rpO (fresh zs)) (fun i hi => by unfold rpO; rw [fresh_old zs m hi])]
    unfold rpO; rw [fresh_new]
  have e3 : rng (zs.length + 1) (rpF (fresh (zs ++ [m]))) = rng zs.length (rpF (fresh zs)) ++ [.int .i64 0] := by
    rw [rng_snoc, rng_like (f := rpF (fresh (zs ++ [m]))) (g := rpF (fresh zs)) (fun i hi => by unfold rpF; rw [fresh_old zs m hi])]
    unfold rpF; rw [fresh_new]
  have e4 : rng (zs.length + 1) (rpV (fun j => if j = zs.length then (some ⟨g, 0, none⟩, m) else X j) (fresh (zs ++ [m]))) = rng zs.length (rpV X (fresh zs)) ++ [.slice (some ⟨g, 0, none⟩) m m] := by
    rw [rng_snoc, rng_like (f := rpV (fun j => if j = zs.length then (some ⟨g, 0, none⟩, m) else X j) (fresh (zs ++ [m]))) (g := rpV X (fresh zs)) (fun i hi => by
      have : ¬ i = zs.length := by omega
      unfold rpV; dsimp only; rw [fresh_old zs m hi, if_neg this])]
    unfold rpV; dsimp only; rw [fresh_new, if_pos rfl]; simp
  unfold RpL
  rw [show (zs ++ [m]).length = zs.length + 1 by simp]
  dsimp only
  rw [e1, e2, e3, e4]
  exact hf
theorem RNew_c (rd : RdM w A n 2 V) (hV : Cls V n Z C) (hm : mayC n Z C) :
    Calls Try.prog 21 #[.slice A n cap] w fun e w' => ∃ r, e = .returned (.pointer (some ⟨r, 0, none⟩)) ∧ St w None w' [RPR r (flatC Z C n).length (fresh (flatC Z C n))] := by
  have hn8 := hm.1
  have hlen := flatC_len hm.2
  obtain ⟨iU, hiU, hzU, hsU, hbU⟩ := info_parts Try.infoU8
  obtain ⟨iG, hiG, hzG, hsG, hbG⟩ := info_parts Try.infoRpG
  obtain ⟨iI, hiI, hzI, hsI, hbI⟩ := info_parts Try.infoRpI
  obtain ⟨iS, hiS, hzS, hsS, hbS⟩ := info_parts Try.infoRpS
  have RD := Lib.hid rd
  have HV := Lib.hid hV
  have HM := Lib.hid hm
  have HLN := Lib.hid hlen
  have s2 : St w None _ (RpL w.heap.size ⟨none, none, none, none, 0, 0, 0, 0, fun _ => (none, 0)⟩ ([] : List Nat).length (fresh [])) := (((((St.begin w).box 85 #[.slice none 0 0, .slice none 0 0, .slice none 0 0, .slice none 0 0]).lis_nil 38 1).lis_nil 3 1).lis_nil 3 1).lis_nil 23 1
  clear hm rd hV hlen
  go_enter Try.func21, Try.ntmps21
  go_wp2_with fail
  generalize w.heap.size = p at *
  go_loopw [4] (fun i wr => ∃ (k : Nat) (a : RpA), k ≤ n ∧ i = .int .i64 k ∧ St w None wr (RpL p a (flatC Z C k).length (fresh (flatC Z C k)))) (fun i _ => n - (intOf i).toNat)
  case atStart => exact ⟨0, _, by omega, rfl, s2⟩
  case round =>
    clear s2
    obtain ⟨k, a, hk, rfl, sr⟩ := hrel
    by_cases hlt : k < n
    · obtain ⟨v0, v1, -, -⟩ := HV.out k hlt
      obtain ⟨o1, o2, o3, o4⟩ := HM.out.2 k hlt
      have o0 : 0 ≤ Z k := by
        have : 0 ≤ prevZ Z k := by
          have : ∀ j, j ≤ k → 0 ≤ prevZ Z j := by
            intro j
            induction j with
            | zero => intro _; exact Int.le_refl _
            | succ j ih => intro hj; have h1 := ih (by omega); have h2 := (HM.out.2 j (by omega)).1; show 0 ≤ Z j; omega
          exact this k (Nat.le_refl _)
        omega
      have hl1 := HLN.out k hk
      have hl2 := HLN.out (k + 1) (by omega)
      have HF := Lib.hid (show flatC Z C (k + 1) = flatC Z C k ++ List.replicate (C k).toNat (Z k).toNat from rfl)
      rw [HF.out] at hl2
      generalize flatC Z C k = zs at *
      obtain ⟨M, hM⟩ := Int.eq_ofNat_of_zero_le o0
      obtain ⟨q, hq⟩ := Int.eq_ofNat_of_zero_le (show 0 ≤ C k by omega)
      rw [hM] at o2 HF hl2
      rw [hq] at o4 HF hl2
      rw [Int.toNat_natCast, Int.toNat_natCast] at HF hl2
      have HC := Lib.hid (show V k 0 = .int .i64 M ∧ V k 1 = .int .i64 q from ⟨by rw [v0, hM], by rw [v1, hq]⟩)
      clear v0 v1 o1 o3 hM hq o0
      have k0 : (0 : Int) ≤ (k : Int) := by omega
      have k1 : (k : Int) < (n : Int) := by omega
      go_wp2_with fail
      go_loopw [5] (fun i wr => ∃ (m : Nat) (a : RpA), m ≤ q ∧ i = .int .i64 m ∧ St w None wr (RpL p a (zs ++ List.replicate m M).length (fresh (zs ++ List.replicate m M)))) (fun i _ => q - (intOf i).toNat)
      case atStart => exact ⟨0, a, by omega, rfl, by simpa using sr⟩
      case round =>
        clear sr
        obtain ⟨m, ⟨G, O, F, B, gc, oc, fc, bc, X⟩, hmq, rfl, sr⟩ := hrel
        obtain ⟨ib, off, rfl, e0, e1⟩ := RD.out.at2 sr.below hlt
        rw [HC.out.1] at e0
        rw [HC.out.2] at e1
        by_cases hl3 : m < q
        · have HR := Lib.hid (show zs ++ List.replicate (m + 1) M = (zs ++ List.replicate m M) ++ [M] by rw [List.append_assoc, ← List.replicate_succ'])
          have hyl : (zs ++ List.replicate m M).length + 1 ≤ 800 := by
            simp at hl2 ⊢
            omega
          generalize zs ++ List.replicate m M = ys at *
          have mk := fun W => run_make_rowN (P := Try.prog) 23 5 iU (.int .u8 0) Try.underlying23 hiU hzU rfl hsU .i64 .i64 M (by rw [hbU]; omega) (by omega) W
          have p0 : wr.cell? ⟨p, 0, none⟩ = some (.slice G ys.length gc) := (sr.blk 0 rfl).cell 0
          have S1 := Lib.hid (sr.alloc (.cells #[.int .u64 1] 38))
          have R1 := Lib.hid (rds_box wr 38 (.int .u64 1))
          clear sr
          go_wp2_with (first
            | (at_builtin; refine wpList_lis rfl (.tmp 27) (.tmp 28) 81 rfl 38 iG (.int .u64 0) 1 8 Try.underlying81 hiG hzG hsG hbG rfl (by decide) _ _ _ rfl (S1.out.lis 1 rfl) _ 1 1 [.int .u64 1] rfl R1.out (by simp [Value.oneCell']) (by unfold maxLen; omega) (by omega) ?_; intro G1 gc1 w1 hl hg hat; have s1 := S1.out.lis_put 1 rfl hl hg hat; have f1 := (s1.blk 0 rfl).frozen 0; have d1 : w1.cell? ⟨p, 0, none⟩ = some (.slice G ys.length gc) := (s1.blk 0 rfl).cell 0; have s1' := s1.set_ 0 rfl 0 (.slice G1 (ys.length + 1) gc1); have q1 : (w1.setCell ⟨p, 0, none⟩ (.slice G1 (ys.length + 1) gc1)).cell? ⟨p, 1, none⟩ = some (.slice O ys.length oc) := (s1'.blk 0 rfl).cell 1; have S2 := Lib.hid (s1'.alloc (.cells #[.int .i64 0] 3)); clear hl hg hat s1 s1')
            | (at_builtin; refine wpList_lis rfl (.tmp 36) (.tmp 37) 82 rfl 3 iI (.int .i64 0) 1 8 Try.underlying82 hiI hzI hsI hbI rfl (by decide) _ _ _ rfl (S2.out.lis 2 rfl) _ 1 1 [.int .i64 0] rfl (rds_box_set _ _ _ _ _) (by simp [Value.oneCell']) (by unfold maxLen; omega) (by omega) ?_; intro O1 oc1 w2 hl hg hat; have s1 := S2.out.lis_put 2 rfl hl hg hat; have f1 := (s1.blk 0 rfl).frozen 1; have d1 : w2.cell? ⟨p, 1, none⟩ = some (.slice O ys.length oc) := (s1.blk 0 rfl).cell 1; have s1' := s1.set_ 0 rfl 1 (.slice O1 (ys.length + 1) oc1); have q1 : (w2.setCell ⟨p, 1, none⟩ (.slice O1 (ys.length + 1) oc1)).cell? ⟨p, 2, none⟩ = some (.slice F ys.length fc) := (s1'.blk 0 rfl).cell 2; have S3 := Lib.hid (s1'.alloc (.cells #[.int .i64 0] 3)); clear hl hg hat s1 s1' S2)
            | (at_builtin; refine wpList_lis rfl (.tmp 45) (.tmp 46) 82 rfl 3 iI (.int .i64 0) 1 8 Try.underlying82 hiI hzI hsI hbI rfl (by decide) _ _ _ rfl (S3.out.lis 3 rfl) _ 1 1 [.int .i64 0] rfl (rds_box_set _ _ _ _ _) (by simp [Value.oneCell']) (by unfold maxLen; omega) (by omega) ?_; intro F1 fc1 w3 hl hg hat; have s1 := S3.out.lis_put 3 rfl hl hg hat; have f1 := (s1.blk 0 rfl).frozen 2; have d1 : w3.cell? ⟨p, 2, none⟩ = some (.slice F ys.length fc) := (s1.blk 0 rfl).cell 2; have s1' := s1.set_ 0 rfl 2 (.slice F1 (ys.length + 1) fc1); obtain ⟨w4, hw4⟩ : ∃ w4, w3.setCell ⟨p, 2, none⟩ (.slice F1 (ys.length + 1) fc1) = w4 := ⟨_, rfl⟩; clear hl hg hat s1)
            | fail)
          rw [hw4] at s1'
          clear hw4 e0 e1 p0
          have p0 : w4.cell? ⟨p, 3, none⟩ = some (.slice B ys.length bc) := (s1'.blk 0 rfl).cell 3
          obtain ⟨ib', off', hA', e0, e1⟩ := RD.out.at2 s1'.below hlt
          injection hA' with hA'
          injection hA' with h1' h2'
          subst h1' h2'
          rw [HC.out.1] at e0
          have S4 := Lib.hid (((s1'.box_arr 5 (madeCells #[.int .u8 0] M) M (fun _ => .int .u8 0) (by simp [madeCells]) (fun i hi => by simp [madeCells, hi, Nat.mod_one])).alloc (.cells #[.slice (some ⟨w4.heap.size, 0, none⟩) M M] 23)).drew)
          have R4 := Lib.hid (show Rds ((w4.alloc (.cells (madeCells #[.int .u8 0] M) 5)).alloc (.cells #[.slice (some ⟨w4.heap.size, 0, none⟩) M M] 23)).drew (some ⟨w4.heap.size + 1, 0, none⟩) 1 1 [.slice (some ⟨w4.heap.size, 0, none⟩) M M] by
            have hb := rds_box (w4.alloc (.cells (madeCells #[.int .u8 0] M) 5)) 23 (.slice (some ⟨w4.heap.size, 0, none⟩) M M)
            rw [show (w4.alloc (.cells (madeCells #[.int .u8 0] M) 5)).heap.size = w4.heap.size + 1 by simp] at hb
            exact hb)
          have p1 := cell_alloc p0 (.cells (madeCells #[.int .u8 0] M) 5)
          have p2 := cell_alloc p1 (.cells #[.slice (some ⟨w4.heap.size, 0, none⟩) M M] 23)
          have e2 := cell_alloc e0 (.cells (madeCells #[.int .u8 0] M) 5)
          have e3 := cell_alloc e2 (.cells #[.slice (some ⟨w4.heap.size, 0, none⟩) M M] 23)
          clear s1' S1 S3 R1 e1
          go_wp2_with fail
          go_region_law (refine step_lis (by rfl) _ _ _ (by rfl) 23 iS (.slice none 0 0) 1 24 Try.underlying83 hiS hzS hsS hbS (by rfl) (by omega) (.slice B ys.length bc) ys.length (rng ys.length (rpV X (fresh ys))) (by rfl) (S4.out.lis 4 rfl) _ 1 1 [.slice (some ⟨w4.heap.size, 0, none⟩) M M] (by rfl) R4.out (by simp [Value.oneCell']) (by unfold maxLen; omega) (by omega) ?_; intro B5 c5 w5 hl hg hat; have s5 := S4.out.lis_put 4 rfl hl hg hat; have f5 := (s5.blk 0 rfl).frozen 3; have q5 : w5.cell? ⟨p, 3, none⟩ = some (.slice B ys.length bc) := (s5.blk 0 rfl).cell 3; have S5 := Lib.hid s5; clear s5 hl hg hat)
          all_goals
            obtain ⟨X', x6⟩ := rp_snoc (by omega) (S5.out.set_ 0 rfl 3 (.slice B5 (ys.length + 1) c5))
            have X6 := Lib.hid x6
            clear S5 x6
            go_wp2_with fail
            go_roundw
            case rel => exact ⟨m + 1, _, by omega, by go_num, by rw [HR.out]; exact X6.out⟩
            case measure => simp [intOf]; omega
        · obtain rfl : m = q := by omega
          have s7 := Lib.hid sr
          rw [← HF.out] at s7
          clear sr
          go_wp2_with fail
          go_roundw
          case rel => exact ⟨k + 1, _, by omega, by go_num, s7.out⟩
          case measure => simp [intOf]; omega
    · obtain rfl : k = n := by omega
      go_wp2_with fail
      go_ret
      exact ⟨p, rfl, (sr.fold (A := []) (R := RPR p (flatC Z C k).length (fresh (flatC Z C k))) (RPR.ok _ _ _) fun S h => ⟨a, h⟩)⟩
theorem RNew_o (H : St w0 S0 w L) (rd : RdM w A n 2 V) (hV : Cls V n Z C) (hm : mayC n Z C) :
    Calls Try.prog 21 #[.slice A n cap] w fun e w' => ∃ r, e = .returned (.pointer (some ⟨r, 0, none⟩)) ∧ St w0 S0 w' (L ++ [RPR r (flatC Z C n).length (fresh (flatC Z C n))]) :=
  (RNew_c rd hV hm).mono fun e w' ⟨r, he, hs⟩ => ⟨r, he, H.join hs⟩
end
end Go.Proofs.Ytiaojhjghededaa
