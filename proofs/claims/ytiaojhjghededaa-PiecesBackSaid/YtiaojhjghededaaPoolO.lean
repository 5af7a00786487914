/- Layer 7: pools are made. -/
import Derived.Test.YtiaojhjghededaaPoolN
namespace Go.Proofs.Ytiaojhjghededaa
open Go.RowKit
set_option linter.unusedVariables false
set_option maxRecDepth 100000
set_option maxHeartbeats 1600000
theorem Try.infoBuf : (Try.prog.info? 72).map (fun i => (i.zero, i.size, i.bytes)) = some (some (.agg #[.slice none 0 0, .int .u64 0, .int .i64 0, .int .i64 0]), 4, 48) := by kernel_rfl
def upd (f : Nat → Nat) (k x : Nat) : Nat → Nat := fun j => if j = k then x else f j
/-- A pool on its way. -/
def MakeL (cb p : Nat) (z c : Int) (A : Option Addr) (cap : Nat) (bp : Nat → Nat) (zs : List Nat) : List Res :=
  [BlkR cb 48 #[.int .i64 z, .int .i64 c], BlkR p 70 #[.slice A zs.length cap], LisR 72 4 (.slice A zs.length cap) zs.length (grid zs.length 4 (bv (fresh zs) bp))] ++ (List.range zs.length).map (fun i => BR (bp i) (fresh zs i).bs)
def HeadL (p : Nat) (A : Option Addr) (cap : Nat) (bp : Nat → Nat) (zs : List Nat) : List Res :=
  [BlkR p 70 #[.slice A zs.length cap], LisR 72 4 (.slice A zs.length cap) zs.length (grid zs.length 4 (bv (fresh zs) bp))] ++ (List.range zs.length).map (fun i => BR (bp i) (fresh zs i).bs)
theorem flatC_pos {n : Nat} {Z C : Nat → Int} (h : mayC n Z C) : 0 < (flatC Z C n).length := by
  obtain ⟨⟨h1, h2⟩, h3⟩ := h
  obtain ⟨j, rfl⟩ : ∃ j, n = j + 1 := ⟨n - 1, by omega⟩
  have h4 := h3 j (by omega)
  unfold okC at h4
  simp [flatC]
  omega
theorem flatC_mem {n : Nat} {Z C : Nat → Int} (h : ∀ k, k < n → okC Z C k) : ∀ k, k ≤ n → ∀ x ∈ flatC Z C k, x ≤ 65536
  | 0, _, x, hx => by simp [flatC] at hx
  | k + 1, hk, x, hx => by
    have h1 := h k (by omega)
    unfold okC at h1
    rcases List.mem_append.1 hx with hx | hx
    · exact flatC_mem h k (by omega) x hx
    · have := List.eq_of_mem_replicate hx
      omega
theorem fresh_ok {zs : List Nat} (h1 : 1 ≤ zs.length) (h2 : zs.length ≤ 800) (h3 : ∀ x ∈ zs, x ≤ 65536) : POK zs.length (fresh zs) 1 :=
  ⟨h1, h2, by omega, fun i hi => by
    refine ⟨⟨?_, ?_⟩, ⟨?_, ?_⟩, ⟨?_, ?_⟩, ?_⟩ <;> simp [fresh]
    have := h3 (zs[i]) (List.getElem_mem hi)
    simp [List.getElem?_eq_getElem hi, this]⟩
theorem new_ok {n : Nat} {Z C : Nat → Int} (h : mayC n Z C) : POK (flatC Z C n).length (fresh (flatC Z C n)) 1 :=
  fresh_ok (flatC_pos h) (by have := flatC_len h.2 n (Nat.le_refl _); have := h.1; omega) (flatC_mem h.2 n (Nat.le_refl _))
theorem fresh_old (zs : List Nat) (m : Nat) {i : Nat} (h : i < zs.length) : fresh (zs ++ [m]) i = fresh zs i := by simp [fresh, List.getD, List.getElem?_append_left h]
theorem fresh_new (zs : List Nat) (m : Nat) : fresh (zs ++ [m]) zs.length = ⟨1, 0, 0, List.replicate m 0⟩ := by simp [fresh, List.getD]
section
variable {w0 w : World} {S S0 : Nat → Prop} {N L : List Res} {A : Option Addr} {n cap p cb : Nat} {bp : Nat → Nat} {zs : List Nat} {V : Nat → Nat → Value} {Z C : Nat → Int} {z c : Int}
/-- One buffer more. -/
theorem make_snoc {B : Option Addr} {cap' g m : Nat} (hm : m ≤ 65536)
    (h : St w0 S0 w (([BlkR cb 48 #[.int .i64 z, .int .i64 c], BlkR p 70 #[.slice B (zs.length + 1) cap'], LisR 72 4 (.slice B (zs.length + 1) cap') (zs.length + 1) (grid zs.length 4 (bv (fresh zs) bp) ++ [.slice (some ⟨g, 0, none⟩) m m, .int .u64 1, .int .i64 0, .int .i64 0])] ++ (List.range zs.length).map (fun i => BR (bp i) (fresh zs i).bs)) ++ [ArrR g 5 m (fun _ => .int .u8 0)])) :
    St w0 S0 w (MakeL cb p z c B cap' (upd bp zs.length g) (zs ++ [m])) := by
  have hf := h.fam_snoc (F' := fun i => BR (upd bp zs.length g i) (fresh (zs ++ [m]) i).bs) (LisR.ok _ _ _ _ _) (fun i hi => by
    have : ¬ i = zs.length := by omega
    simp [upd, this, fresh_old zs m hi]) (fun S h => by
    show BR (upd bp zs.length g zs.length) (fresh (zs ++ [m]) zs.length).bs w S
    rw [fresh_new, show upd bp zs.length g zs.length = g by simp [upd]]
    show LisR 5 1 (.slice (some ⟨g, 0, none⟩) (List.replicate m (0 : Int)).length (List.replicate m (0 : Int)).length) (List.replicate m (0 : Int)).length (bys (List.replicate m 0)) w S
    rw [List.length_replicate]
    exact arr_lis_res h (by unfold maxLen; omega) (by simp [bys]) (fun j hj => by simp [bys, hj]))
  have hg : grid (zs.length + 1) 4 (bv (fresh (zs ++ [m])) (upd bp zs.length g)) = grid zs.length 4 (bv (fresh zs) bp) ++ [.slice (some ⟨g, 0, none⟩) m m, .int .u64 1, .int .i64 0, .int .i64 0] := by
    rw [grid_snoc _ _ _ (by omega)]
    congr 1
    · refine grid_like fun j k hj hk => ?_
      have : ¬ j = zs.length := by omega
      rcases (show k = 0 ∨ k = 1 ∨ k = 2 ∨ k = 3 by omega) with rfl | rfl | rfl | rfl <;> simp [bv, upd, this, fresh_old zs m hj]
    · show [bv _ _ zs.length 0, bv _ _ zs.length 1, bv _ _ zs.length 2, bv _ _ zs.length 3] = _
      simp [bv, upd, fresh_new]
  unfold MakeL
  rw [show (zs ++ [m]).length = zs.length + 1 by simp, hg]
  exact hf
theorem new_yes (rd : RdM w A n 2 V) (hV : Cls V n Z C) (hm : mayC n Z C) :
    Calls Try.prog 15 #[.slice A n cap] w fun e w' => ∃ p, e = .returned (.tuple #[.pointer (some ⟨p, 0, none⟩), .int .i64 0]) ∧ St w None w' [PoolR p (flatC Z C n).length (fresh (flatC Z C n))] := by
  have hn8 := hm.1
  have hlen := flatC_len hm.2
  have MC := Lib.hid (may_c (cap := cap) rd hV (by unfold maxLen; omega) true (decide_eq_true hm).symm)
  obtain ⟨iU, hiU, hzU, hsU, hbU⟩ := info_parts Try.infoU8
  obtain ⟨iB, hiB, hzB, hsB, hbB⟩ := info_parts Try.infoBuf
  have RD := Lib.hid rd
  have HV := Lib.hid hV
  have HM := Lib.hid hm
  have HLN := Lib.hid hlen
  clear hm rd hV hlen
  go_enter Try.func15, Try.ntmps15
  go_wp2_with fail
  refine (looks MC.out (St.begin w)).mono ?_
  rintro e w1 ⟨rfl, s1⟩
  clear MC
  have s2 : St w None _ (HeadL w1.heap.size none 0 (fun _ => 0) []) := (s1.box 70 #[.slice none 0 0]).lis_nil 72 4
  clear s1
  go_wp2_with fail
  generalize w1.heap.size = p at *
  go_loopw [14] (fun i wr => ∃ (k : Nat) (B : Option Addr) (cp : Nat) (bp : Nat → Nat), k ≤ n ∧ i = .int .i64 k ∧ St w None wr (HeadL p B cp bp (flatC Z C k))) (fun i _ => n - (intOf i).toNat)
  case atStart => exact ⟨0, none, 0, fun _ => 0, by omega, rfl, s2⟩
  case round =>
    clear s2
    obtain ⟨k, B, cp, bp, hk, rfl, sr⟩ := hrel
    by_cases hlt : k < n
    · obtain ⟨v0, v1, -, -⟩ := HV.out k hlt
      obtain ⟨ib, off, rfl, e0, e1⟩ := RD.out.at2 sr.below hlt
      rw [v0] at e0
      rw [v1] at e1
      obtain ⟨o1, o2, o3, o4⟩ := HM.out.2 k hlt
      have o0 : 0 ≤ Z k := by
        have : 0 ≤ prevZ Z k := by
          cases k with
          | zero => exact Int.le_refl _
          | succ k =>
            have h := (HM.out.2 k (by omega)).1
            show 0 ≤ Z k
            have h0 : 0 ≤ prevZ Z k := by
              have : ∀ j, j ≤ k → 0 ≤ prevZ Z j := by
                intro j
                induction j with
                | zero => intro _; exact Int.le_refl _
                | succ j ih => intro hj; have h1 := ih (by omega); have h2 := (HM.out.2 j (by omega)).1; show 0 ≤ Z j; omega
              exact this k (Nat.le_refl _)
            omega
        omega
      have hl1 := HLN.out k hk
      have hl2 := HLN.out (k + 1) (by omega)
      have HF := Lib.hid (show flatC Z C (k + 1) = flatC Z C k ++ List.replicate (C k).toNat (Z k).toNat from rfl)
      rw [HF.out] at hl2
      generalize flatC Z C k = zs at *
      obtain ⟨M, hM⟩ := Int.eq_ofNat_of_zero_le o0
      obtain ⟨q, hq⟩ := Int.eq_ofNat_of_zero_le (show 0 ≤ C k by omega)
      rw [hM] at e0 o2 HF hl2
      rw [hq] at e1 o4 HF hl2
      rw [Int.toNat_natCast, Int.toNat_natCast] at HF hl2
      have s3 : St w None _ (MakeL wr.heap.size p M q B cp bp zs) := sr.front 48 #[.int .i64 M, .int .i64 q]
      have f0 := (s3.blk 0 rfl).two
      obtain ⟨f0, f1⟩ := f0
      clear sr v0 v1 o1 o3 hM hq o0
      go_wp2_with fail
      clear f0 f1 e0 e1
      generalize wr.heap.size = cb at *
      go_loopw [20] (fun i wr => ∃ (m : Nat) (B : Option Addr) (cp : Nat) (bp : Nat → Nat), m ≤ q ∧ i = .int .i64 m ∧ St w None wr (MakeL cb p M q B cp bp (zs ++ List.replicate m M))) (fun i _ => q - (intOf i).toNat)
      case atStart => exact ⟨0, B, cp, bp, by omega, rfl, by simpa using s3⟩
      case round =>
        clear s3
        obtain ⟨m, B, cp, bp, hmq, rfl, sr⟩ := hrel
        by_cases hl3 : m < q
        · have HR := Lib.hid (show zs ++ List.replicate (m + 1) M = (zs ++ List.replicate m M) ++ [M] by rw [List.append_assoc, ← List.replicate_succ'])
          have hyl : (zs ++ List.replicate m M).length ≤ 800 := by
            simp at hl2 ⊢
            omega
          generalize zs ++ List.replicate m M = ys at *
          have mk := fun W => run_make_rowN (P := Try.prog) 23 5 iU (.int .u8 0) Try.underlying23 hiU hzU rfl hsU .i64 .i64 M (by rw [hbU]; omega) (by omega) W
          obtain ⟨c0, c1⟩ := (sr.blk 0 rfl).two
          have p0 : wr.cell? ⟨p, 0, none⟩ = some (.slice B ys.length cp) := (sr.blk 1 rfl).one
          have S3 := Lib.hid (((sr.box_arr 5 (madeCells #[.int .u8 0] M) M (fun _ => .int .u8 0) (by simp [madeCells]) (fun i hi => by simp [madeCells, hi, Nat.mod_one])).alloc (.cells #[.slice (some ⟨wr.heap.size, 0, none⟩) M M, .int .u64 1, .int .i64 0, .int .i64 0] 72)).drew)
          have R3 := Lib.hid (show Rds ((wr.alloc (.cells (madeCells #[.int .u8 0] M) 5)).alloc (.cells #[.slice (some ⟨wr.heap.size, 0, none⟩) M M, .int .u64 1, .int .i64 0, .int .i64 0] 72)).drew (some ⟨wr.heap.size + 1, 0, none⟩) 1 4 [.slice (some ⟨wr.heap.size, 0, none⟩) M M, .int .u64 1, .int .i64 0, .int .i64 0] by
            have hb := Blk.new (wr.alloc (.cells (madeCells #[.int .u8 0] M) 5)) 72 #[.slice (some ⟨wr.heap.size, 0, none⟩) M M, .int .u64 1, .int .i64 0, .int .i64 0]
            rw [show (wr.alloc (.cells (madeCells #[.int .u8 0] M) 5)).heap.size = wr.heap.size + 1 by simp] at hb
            refine ⟨rfl, Or.inr ⟨_, _, rfl, fun j u hu => ?_⟩⟩
            rw [Nat.zero_add]
            refine (hb.cell j).trans ?_
            simpa using hu)
          have p1 := cell_alloc p0 (.cells (madeCells #[.int .u8 0] M) 5)
          have p2 := cell_alloc p1 (.cells #[.slice (some ⟨wr.heap.size, 0, none⟩) M M, .int .u64 1, .int .i64 0, .int .i64 0] 72)
          clear sr
          go_wp2_with fail
          go_region_law (refine step_lis (by rfl) _ _ _ (by rfl) 72 iB (.agg #[.slice none 0 0, .int .u64 0, .int .i64 0, .int .i64 0]) 4 48 Try.underlying68 hiB hzB hsB hbB (by rfl) (by omega) (.slice B ys.length cp) ys.length (grid ys.length 4 (bv (fresh ys) bp)) (by rfl) (S3.out.lis 2 rfl) _ 1 1 [.slice (some ⟨wr.heap.size, 0, none⟩) M M, .int .u64 1, .int .i64 0, .int .i64 0] (by rfl) R3.out (by simp [Value.oneCell']) (by unfold maxLen; omega) (by omega) ?_; intro B5 c5 w5 hl hg hat; have s5 := S3.out.lis_put 2 rfl hl hg hat; have f5 := (s5.blk 1 rfl).frozen 0; have q5 := (s5.blk 1 rfl).one; have S5 := Lib.hid s5; clear s5 hl hg hat)
          all_goals
            have X6 := Lib.hid (make_snoc (by omega) (S5.out.set_ 1 rfl 0 (.slice B5 (ys.length + 1) c5)))
            clear S5
            go_wp2_with fail
            go_roundw
            case rel => exact ⟨m + 1, _, _, _, by omega, by go_num, by rw [HR.out]; exact X6.out⟩
            case measure => simp [intOf]; omega
        · obtain rfl : m = q := by omega
          have s7 : St w None _ (HeadL p B cp bp (zs ++ List.replicate m M)) := sr.drop 0 (by simp [MakeL])
          rw [← HF.out] at s7
          go_wp2_with fail
          go_roundw
          case rel => exact ⟨k + 1, B, cp, bp, by omega, by go_num, s7⟩
          case measure => simp [intOf]; omega
    · obtain rfl : k = n := by omega
      go_wp2_with fail
      go_ret2
      obtain ⟨A', cap', hv, -, -, -, hcell⟩ := sr.lis_cells 1 rfl
      injection hv with hv1 _ hv2
      subst hv1 hv2
      have hpos := flatC_pos HM.out
      obtain ⟨bb, off, rfl, -⟩ := hcell.resolve_left (by omega)
      refine ⟨p, rfl, ?_⟩
      have h := (sr.fold (A := []) (R := PoolR p (flatC Z C k).length (fresh (flatC Z C k))) (PoolR.ok _ _ _) fun S h => ⟨bb, off, cp, bp, h⟩)
      exact h
theorem new_no (rd : RdM w A n 2 V) (hV : Cls V n Z C) (hn : n ≤ maxLen) (hm : ¬ mayC n Z C) :
    Calls Try.prog 15 #[.slice A n cap] w fun e w' => e = .returned (.tuple #[.pointer none, .int .i64 1]) ∧ Below w.heap.size w w' := by
  have MC := Lib.hid (may_c (cap := cap) rd hV hn false (decide_eq_false hm).symm)
  clear rd hV hm
  go_enter Try.func15, Try.ntmps15
  go_wp2_with fail
  refine MC.out.mono ?_
  rintro e w1 ⟨rfl, hb⟩
  go_wp2_with fail
  go_ret2
  exact ⟨rfl, hb⟩
theorem new_o (H : St w0 S0 w L) (rd : RdM w A n 2 V) (hV : Cls V n Z C) (hm : mayC n Z C) :
    Calls Try.prog 15 #[.slice A n cap] w fun e w' => ∃ p, e = .returned (.tuple #[.pointer (some ⟨p, 0, none⟩), .int .i64 0]) ∧ St w0 S0 w' (L ++ [PoolR p (flatC Z C n).length (fresh (flatC Z C n))]) :=
  (new_yes rd hV hm).mono fun e w' ⟨p, he, hs⟩ => by
    obtain ⟨S', y1, y2, y3⟩ := hs.made
    exact ⟨p, he, H.more y3 y1 y2⟩
end
end Go.Proofs.Ytiaojhjghededaa
