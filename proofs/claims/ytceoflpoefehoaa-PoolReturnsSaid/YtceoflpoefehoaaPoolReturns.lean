/-
  For all classes and every script PoolReturns answers true, and changes nothing: whatever was done, once each buffer is a task's again, and dropped as often as there are references, all are free, and each that is got then is empty. No condition.
-/
import Derived.Test.YtceoflpoefehoaaRows
import Derived.Test.YtceoflpoefehoaaFr
import Derived.Test.YtceoflpoefehoaaPool5
import Derived.Test.YtceoflpoefehoaaOpen
namespace Go.Proofs.Ytceoflpoefehoaa.poolReturns
open Go.ChangeShapes Go.WideShapes Go.ChangeAt Go.RowKit
set_option linter.unusedVariables false
theorem own : ownKnob Try.prog.godebug = none := by kernel_rfl
theorem laid : laidOutB Try.prog = true := by kernel_rfl
set_option maxRecDepth 100000
set_option maxHeartbeats 2000000
abbrev HL (B : Option Addr) (cp : Nat) (l : List (Int × Int)) : Res := LisR 34 2 (.slice B l.length cp) l.length (hs l)
/-- A step of the script. -/
structure Do where
  k : Int
  x : Int
  g : Int
  a : Int
  b : Int
deriving Inhabited
theorem Try.infoH : (Try.prog.info? 34).map (fun i => (i.zero, i.size, i.bytes)) = some (some (.agg #[.int .i64 0, .int .u64 0]), 2, 16) := by kernel_rfl
def Steps (w : World) (V : Nat → Nat → Value) (n : Nat) (D : Nat → Do) : Prop := ∀ j, j < n → V j 0 = .int .i64 (D j).k ∧ V j 1 = .int .i64 (D j).x ∧ V j 2 = .int .u64 (D j).g ∧ V j 3 = .int .i64 (D j).a ∧ V j 4 = .int .i64 (D j).b ∧
  ∃ B c, ∃ xs : List Int, V j 5 = .slice B xs.length c ∧ xs.length ≤ maxLen ∧ (∀ w', Below w.heap.size w w' → Rds w' B xs.length 1 (bys xs))
theorem hl_cells {w0 w : World} {S0 : Nat → Prop} {L : List Res} {hb ho cp m : Nat} {x g : Int} {l : List (Int × Int)} (s : St w0 S0 w L) (i : Nat) (hi : L[i]? = some (HL (some ⟨hb, ho, none⟩) cp l)) (h : l[m]? = some (x, g)) :
    w.cell? ⟨hb, ho + m * 2, none⟩ = some (.int .i64 x) ∧ w.cell? ⟨hb, ho + m * 2 + 1, none⟩ = some (.int .u64 g) := by
  obtain ⟨a0, a1⟩ := hs_at l m (x, g) h
  rcases (s.lis i hi).reads.2 with h0 | ⟨g', o', ha, hc⟩
  · rw [List.getElem?_eq_none (by omega)] at h; cases h
  · obtain ⟨rfl, rfl⟩ : hb = g' ∧ ho = o' := by simpa using ha
    exact ⟨hc _ _ a0, by rw [Nat.add_assoc]; exact hc _ _ a1⟩
theorem walk (A A2 : Option Addr) (n cap n2 cap2 : Nat) (V V2 : Nat → Nat → Value) (Z C : Nat → Int) (D : Nat → Do) (w : World) (hn : n ≤ maxLen) (hn2 : n2 ≤ maxLen) (rd : RdM w A n 2 V) (hV : Cls V n Z C) (rd2 : RdM w A2 n2 6 V2) (hD : Steps w V2 n2 D) :
    Calls Try.prog 3 #[.slice A n cap, .slice A2 n2 cap2] w fun r w' => r = .returned (.bool true) ∧ Below w.heap.size w w' := by
  have SM := Lib.hid (fun (w1 : World) (hb : Below w.heap.size w w1) => rsmall_c (w := w1) (cap := cap) (rd.below hb (Nat.le_refl _)) hV hn)
  have SL := Lib.hid (fun (w1 : World) (hb : Below w.heap.size w w1) => small_c (w := w1) (cap := cap2) (rd2.below hb (Nat.le_refl _)) (fun j hj => by obtain ⟨-, -, -, -, -, B, c, xs, h, -⟩ := hD j hj; exact ⟨B, _, c, h⟩) hn2)
  have MY := Lib.hid (fun (w1 : World) (hb : Below w.heap.size w w1) => rmay_c (w := w1) (cap := cap) (rd.below hb (Nat.le_refl _)) hV hn)
  have HV := Lib.hid hV
  have RD := Lib.hid rd
  have RD2 := Lib.hid rd2
  have HD := Lib.hid hD
  unfold maxLen at hn2
  clear hV rd rd2 hD hn
  go_enter Try.func3, Try.ntmps3
  go_wp2_with fail
  refine (awake_o (St.begin w)).mono ?_
  rintro e w1 ⟨rfl, s1⟩
  go_wp2_with fail
  refine (SM.out w1 s1.below).mono ?_
  rintro e w2 ⟨b, rfl, hb⟩
  have s2 := s1.stay hb
  clear s1 hb SM
  cases b with
  | false =>
    go_wp2_with fail
    go_ret
    exact ⟨rfl, s2.below⟩
  | true =>
  go_wp2_with fail
  refine (SL.out w2 s2.below).mono ?_
  rintro e w3 ⟨b, rfl, hb⟩
  have s3 := s2.stay hb
  clear s2 hb SL
  cases b with
  | false =>
    go_wp2_with fail
    go_ret
    exact ⟨rfl, s3.below⟩
  | true =>
  go_wp2_with fail
  refine (MY.out w3 s3.below).mono ?_
  rintro e w4 ⟨b, rfl, hm, hb⟩
  have s4 := s3.stay hb
  clear s3 hb MY
  cases b with
  | false =>
    clear hm
    go_wp2_with fail
    go_ret
    exact ⟨rfl, s4.below⟩
  | true =>
  have HM := Lib.hid (hm rfl)
  have NW := Lib.hid (new_o (cap := cap) s4 (RD.out.below s4.below (Nat.le_refl _)) HV.out (hm rfl))
  obtain ⟨iH, hiH, hzH, hsH, hbH⟩ := info_parts Try.infoH
  clear hm s4
  go_wp2_with fail
  refine NW.out.mono ?_
  rintro e w5 ⟨p, rfl, s5'⟩
  have H0 := flatC_zero HM.out n HM.out.1.1 (Nat.le_refl _)
  have H1 := flatC_one HM.out.2 n (Nat.le_refl _)
  have GD0 : Good (flatC Z C n).length (fresh (flatC Z C n)) [] (flatC Z C n) 2 := by
    have ok := new_ok HM.out
    refine Good.more (G := 1) (all := []) ⟨ok, fun j hj ho => ?_, fun j hj => ?_⟩ (fun _ h => h) (by omega) (by omega)
    · exact absurd rfl ho
    · simp [fresh]
  obtain ⟨zs, hzs⟩ : ∃ zs, flatC Z C n = zs := ⟨_, rfl⟩
  rw [hzs] at GD0 H0 H1 s5'
  obtain ⟨N, hN⟩ : ∃ N, zs.length = N := ⟨_, rfl⟩
  rw [hN] at GD0 s5' H0
  have s5 : St w None w5 [PoolR p N (fresh zs), HL none 0 []] := s5'.lis_nil 34 2
  have HZ0 := Lib.hid H0
  have HZ1 := Lib.hid H1
  have HNN := Lib.hid hN
  clear s5' NW hzs H0 H1 hN
  go_wp2_with fail
  go_loopw [7, 8] (fun al i wr => ∃ (k : Nat) (B : Option Addr) (cp : Nat) (l : List (Int × Int)) (st : Nat → Buf), k ≤ n2 ∧ k ≤ 120 ∧ l.length ≤ k ∧ i = .int .i64 k ∧ al = .slice B l.length cp ∧ Good N st l zs (2 + (k : Int)) ∧ St w None wr [PoolR p N st, HL B cp l]) (fun _ i _ => 120 - (intOf i).toNat)
  case atStart => exact ⟨0, none, 0, [], fresh zs, by omega, by omega, by simp, rfl, rfl, GD0, s5⟩
  case round =>
    clear s5 GD0
    obtain ⟨k, B, cp, l, st, hk, hk2, hll, rfl, rfl, hG, sr⟩ := hrel
    by_cases hgo : k < n2 ∧ k < 120
    · obtain ⟨hlt, h120⟩ := hgo
      have d0 : decide ((k : Int) < (n2 : Int)) = true := decide_eq_true (by omega)
      have d1 : decide ((k : Int) < 120) = true := decide_eq_true (by omega)
      obtain ⟨v0, v1, v2, v3, v4, Bx, cx, xs, v5, hxl, hxr⟩ := HD.out k hlt
      obtain ⟨ib, off, rfl, -, hc⟩ := RD2.out (by omega)
      have ce : ∀ j, j < 6 → wr.cell? ⟨ib, off + (k * 6 + j), none⟩ = some (V2 k j) := fun j hj =>
        (sr.cell (p := ⟨ib, off + (k * 6 + j), none⟩) (block_lt (hc k hlt j hj)) id).trans (hc k hlt j hj)
      have e0 : wr.cell? ⟨ib, off + k * 6, none⟩ = some (.int .i64 (D k).k) := by have := ce 0 (by omega); rw [v0] at this; exact this
      have e1 : wr.cell? ⟨ib, off + k * 6 + 1, none⟩ = some (.int .i64 (D k).x) := by have := ce 1 (by omega); rw [v1] at this; rw [Nat.add_assoc]; exact this
      have e2 : wr.cell? ⟨ib, off + k * 6 + 2, none⟩ = some (.int .u64 (D k).g) := by have := ce 2 (by omega); rw [v2] at this; rw [Nat.add_assoc]; exact this
      have e3 : wr.cell? ⟨ib, off + k * 6 + 3, none⟩ = some (.int .i64 (D k).a) := by have := ce 3 (by omega); rw [v3] at this; rw [Nat.add_assoc]; exact this
      have e4 : wr.cell? ⟨ib, off + k * 6 + 4, none⟩ = some (.int .i64 (D k).b) := by have := ce 4 (by omega); rw [v4] at this; rw [Nat.add_assoc]; exact this
      have e5 : wr.cell? ⟨ib, off + k * 6 + 5, none⟩ = some (.slice Bx xs.length cx) := by have := ce 5 (by omega); rw [v5] at this; rw [Nat.add_assoc]; exact this
      generalize (D k).k = kk at *
      generalize (D k).x = x at *
      generalize (D k).g = g at *
      generalize (D k).a = a at *
      generalize (D k).b = b at *
      have HX := Lib.hid hxr
      have HG := Lib.hid hG
      clear ce hc v0 v1 v2 v3 v4 v5 hxr hG
      have s6 : St w None (wr.alloc (.cells #[.int .i64 kk, .int .i64 x, .int .u64 g, .int .i64 a, .int .i64 b, .slice Bx xs.length cx] 37)) [PoolR p N st, HL B cp l, BlkR wr.heap.size 37 #[.int .i64 kk, .int .i64 x, .int .u64 g, .int .i64 a, .int .i64 b, .slice Bx xs.length cx]] := sr.box 37 #[.int .i64 kk, .int .i64 x, .int .u64 g, .int .i64 a, .int .i64 b, .slice Bx xs.length cx]
      have c0 := (s6.blk 2 rfl).cell 0
      have c1 := (s6.blk 2 rfl).cell 1
      have c2 := (s6.blk 2 rfl).cell 2
      have c3 := (s6.blk 2 rfl).cell 3
      have c4 := (s6.blk 2 rfl).cell 4
      have c5 := (s6.blk 2 rfl).cell 5
      simp only [List.getElem?_toArray, List.getElem?_cons_zero, List.getElem?_cons_succ] at c0 c1 c2 c3 c4 c5
      clear sr
      have hG1 : (2 : Int) + (k : Int) + 1 < 9223372036854775807 := by omega
      by_cases k0 : kk = 0
      · subst k0
        obtain ⟨y, h, c, st', hP⟩ := get_ex N st a
        have GO := Lib.hid (get_o s6 0 rfl HG.out.ok hP)
        have GG := Lib.hid (hP.good HG.out hG1)
        clear s6 hP
        go_wp2_with fail
        refine GO.out.mono ?_
        rintro e w7 ⟨rfl, s7'⟩
        have s7 : St w None (w7.alloc (.cells #[.int .i64 y, .int .u64 h] 34)) [PoolR p N st', HL B cp l, _, BlkR w7.heap.size 34 #[.int .i64 y, .int .u64 h]] := s7'.box 34 #[.int .i64 y, .int .u64 h]
        obtain ⟨y0, y1⟩ := (s7.blk 3 rfl).two
        clear s7' GO c0 c1 c2 c3 c4 c5 e0 e1 e2 e3 e4 e5
        by_cases hc : c = 0
        · subst hc
          have GG2 := Lib.hid (GG.out.resolve_left fun h => h.1 rfl).2
          have s8 := s7.alloc (.cells #[.int .i64 y, .int .u64 h] 34)
          have hl8 := s8.lis 1 rfl
          have hr8 := rds_box2 (w7.alloc (.cells #[.int .i64 y, .int .u64 h] 34)) 34 (.int .i64 y) (.int .u64 h)
          rw [show (w7.alloc (.cells #[.int .i64 y, .int .u64 h] 34)).heap.size = w7.heap.size + 1 by simp] at hr8
          have HLk := Lib.hid (show l.length ≤ 120 by omega)
          clear s7 GG hxl
          go_wp2_with (at_builtin; refine wpList_lis rfl (.tmp 77) (.tmp 79) 31 rfl 34 iH (.agg #[.int .i64 0, .int .u64 0]) 2 16 Try.underlying31 hiH hzH hsH hbH rfl (by decide) _ _ _ rfl hl8 (some ⟨w7.heap.size + 1, 0, none⟩) 1 1 [.int .i64 y, .int .u64 h] rfl hr8 (by simp [Value.oneCell']) (by have := HLk.out; unfold maxLen; omega) (by have := HLk.out; omega) ?_; intro B9 cp9 w9 hl9 hg9 hat9; have s9' := s8.lis_put 1 rfl hl9 hg9 hat9; clear hl9 hg9 hat9)
          have s9 : St w None w9 [PoolR p N st', HL B9 cp9 (l ++ [(y, h)])] := by
            have h2 := s9'.take 2
            have e : hs (l ++ [(y, h)]) = hs l ++ [.int .i64 y, .int .u64 h] := hs_app l [(y, h)]
            show St w None w9 [_, LisR 34 2 (.slice B9 (l ++ [(y, h)]).length cp9) (l ++ [(y, h)]).length (hs (l ++ [(y, h)]))]
            rw [e, List.length_append]
            exact h2
          go_roundw
          case rel => exact ⟨k + 1, B9, cp9, l ++ [(y, h)], st', by omega, by omega, by simp; omega, by go_num, by simp, by rw [show (2 : Int) + ((k + 1 : Nat) : Int) = 2 + (k : Int) + 1 by omega]; exact GG2.out, s9⟩
          case measure => simp [intOf]; omega
        · have GG2 := GG.out.resolve_right fun h => hc h.1
          have GG := Lib.hid GG2.2
          have z0 : (c == 0) = false := beq_eq_false_iff_ne.2 hc
          have s8 := s7
          clear GG2 hc s7
          have s9 : St w None _ [PoolR p N _, HL B cp l] := s8.take 2
          go_wp2_with fail
          go_roundw
          case rel => exact ⟨k + 1, B, cp, l, _, by omega, by omega, by omega, by go_num, rfl, by rw [show (2 : Int) + ((k + 1 : Nat) : Int) = 2 + (k : Int) + 1 by omega]; exact GG.out, s9⟩
          case measure => simp [intOf]; omega
      have z0 : (kk == 0) = false := beq_eq_false_iff_ne.2 k0
      by_cases k1 : kk = 1
      · subst k1
        obtain ⟨c, st', hP⟩ := via_ex (n := N) (st := st) (x := x) (g := g) share_b
        have GO := Lib.hid (share_o s6 0 rfl HG.out.ok hP)
        have GG := Lib.hid (hP.good share_t HG.out hG1)
        clear s6 hP k0
        go_wp2_with fail
        refine GO.out.mono ?_
        rintro e w7 ⟨rfl, s8⟩
        clear GO c0 c1 c2 c3 c4 c5 e0 e1 e2 e3 e4 e5
        have s9 : St w None _ [PoolR p N _, HL B cp l] := s8.take 2
        go_wp2_with fail
        go_roundw
        case rel => exact ⟨k + 1, B, cp, l, _, by omega, by omega, by omega, by go_num, rfl, by rw [show (2 : Int) + ((k + 1 : Nat) : Int) = 2 + (k : Int) + 1 by omega]; exact GG.out, s9⟩
        case measure => simp [intOf]; omega
      have z1 : (kk == 1) = false := beq_eq_false_iff_ne.2 k1
      by_cases k2 : kk = 2
      · subst k2
        obtain ⟨c, st', hP⟩ := via_ex (n := N) (st := st) (x := x) (g := g) drop_b
        have GO := Lib.hid (drop_o s6 0 rfl HG.out.ok hP)
        have GG := Lib.hid (hP.good drop_t HG.out hG1)
        clear s6 hP k0 k1
        go_wp2_with fail
        refine GO.out.mono ?_
        rintro e w7 ⟨rfl, s8⟩
        clear GO c0 c1 c2 c3 c4 c5 e0 e1 e2 e3 e4 e5
        have s9 : St w None _ [PoolR p N _, HL B cp l] := s8.take 2
        go_wp2_with fail
        go_roundw
        case rel => exact ⟨k + 1, B, cp, l, _, by omega, by omega, by omega, by go_num, rfl, by rw [show (2 : Int) + ((k + 1 : Nat) : Int) = 2 + (k : Int) + 1 by omega]; exact GG.out, s9⟩
        case measure => simp [intOf]; omega
      have z2 : (kk == 2) = false := beq_eq_false_iff_ne.2 k2
      by_cases k3 : kk = 3
      · subst k3
        obtain ⟨c, st', hP⟩ := via_ex (n := N) (st := st) (x := x) (g := g) (give_b a b)
        have GO := Lib.hid (give_o s6 0 rfl HG.out.ok hP)
        have GG := Lib.hid (hP.good (give_t a b) HG.out hG1)
        clear s6 hP k0 k1 k2
        go_wp2_with fail
        refine GO.out.mono ?_
        rintro e w7 ⟨rfl, s8⟩
        clear GO c0 c1 c2 c3 c4 c5 e0 e1 e2 e3 e4 e5
        have s9 : St w None _ [PoolR p N _, HL B cp l] := s8.take 2
        go_wp2_with fail
        go_roundw
        case rel => exact ⟨k + 1, B, cp, l, _, by omega, by omega, by omega, by go_num, rfl, by rw [show (2 : Int) + ((k + 1 : Nat) : Int) = 2 + (k : Int) + 1 by omega]; exact GG.out, s9⟩
        case measure => simp [intOf]; omega
      have z3 : (kk == 3) = false := beq_eq_false_iff_ne.2 k3
      by_cases k4 : kk = 4
      · subst k4
        obtain ⟨c, st', hP⟩ := via_ex (n := N) (st := st) (x := x) (g := g) (write_b a b xs)
        have GO := Lib.hid (write_o s6 0 rfl HG.out.ok hP (A := Bx) (cp := cx) hxl (HX.out _ s6.below))
        have GG := Lib.hid (hP.good (write_t a b xs) HG.out hG1)
        clear s6 hP k0 k1 k2 k3
        go_wp2_with fail
        refine GO.out.mono ?_
        rintro e w7 ⟨rfl, s8⟩
        clear GO c0 c1 c2 c3 c4 c5 e0 e1 e2 e3 e4 e5
        have s9 : St w None _ [PoolR p N _, HL B cp l] := s8.take 2
        go_wp2_with fail
        go_roundw
        case rel => exact ⟨k + 1, B, cp, l, _, by omega, by omega, by omega, by go_num, rfl, by rw [show (2 : Int) + ((k + 1 : Nat) : Int) = 2 + (k : Int) + 1 by omega]; exact GG.out, s9⟩
        case measure => simp [intOf]; omega
      have z4 : (kk == 4) = false := beq_eq_false_iff_ne.2 k4
      have GG := Lib.hid (HG.out.more (G' := 2 + (k : Int) + 1) (fun _ h => h) (by omega) hG1)
      have s8 := s6
      clear k0 k1 k2 k3 k4 s6
      have s9 : St w None _ [PoolR p N _, HL B cp l] := s8.take 2
      go_wp2_with fail
      go_roundw
      case rel => exact ⟨k + 1, B, cp, l, _, by omega, by omega, by omega, by go_num, rfl, by rw [show (2 : Int) + ((k + 1 : Nat) : Int) = 2 + (k : Int) + 1 by omega]; exact GG.out, s9⟩
      case measure => simp [intOf]; omega
    · have GD : Good N st (l.drop 0) zs (200 + ((0 : Nat) : Int)) := hG.more (fun x h => h) (by omega) (by omega)
      have HLL := Lib.hid (show l.length ≤ 120 by omega)
      by_cases hlt : k < n2
      · have d0 : decide ((k : Int) < (n2 : Int)) = true := decide_eq_true (by omega)
        have d1 : decide ((k : Int) < 120) = false := decide_eq_false (by omega)
        have d1' : decide (k < 120) = false := decide_eq_false (by omega)
        have d0' : decide (k < n2) = true := decide_eq_true hlt
        clear hgo hG hll hk hk2
        go_wp2_with fail
        go_loopw [12] (fun i wr => ∃ (m : Nat) (st : Nat → Buf), m ≤ l.length ∧ i = .int .i64 m ∧ Good N st (l.drop m) zs (200 + (m : Int)) ∧ St w None wr [PoolR p N st, HL B cp l]) (fun i _ => l.length - (intOf i).toNat)
        case atStart => exact ⟨0, st, by omega, rfl, GD, sr⟩
        case round =>
          clear sr GD d0 d0'
          obtain ⟨m, st, hm, rfl, hG, sr⟩ := hrel
          have hl120 := HLL.out
          by_cases hlt : m < l.length
          · obtain ⟨⟨x, g⟩, hxg⟩ : ∃ a, l[m]? = some a := ⟨_, List.getElem?_eq_getElem hlt⟩
            have hdr : l.drop m = (x, g) :: l.drop (m + 1) := by
              rw [List.drop_eq_getElem_cons hlt]
              congr 1
              rw [List.getElem?_eq_getElem hlt] at hxg
              exact Option.some.inj hxg
            rw [hdr] at hG
            obtain ⟨A', cap', hv, -, -, -, hcell⟩ := sr.lis_cells 1 rfl
            injection hv with hv1 _ hv2
            subst hv1 hv2
            obtain ⟨hb, ho, rfl, -⟩ := hcell.resolve_left (by omega)
            obtain ⟨q0, q1⟩ := hl_cells sr 1 rfl hxg
            have HX := Lib.hid hxg
            clear hcell hdr hxg
            by_cases hlv : live N st x g
            · obtain ⟨⟨x0, xn⟩, hown, hgen⟩ := hlv
              obtain ⟨j, rfl⟩ := Int.eq_ofNat_of_zero_le x0
              rw [Int.toNat_natCast] at hown hgen
              have hjN : j < N := by omega
              obtain ⟨hr1, -⟩ := hG.held j hjN hown
              obtain ⟨og, oo, orf, ob⟩ := hG.ok.b j hjN
              obtain ⟨r, hr⟩ := Int.eq_ofNat_of_zero_le orf.1
              have OW := Lib.hid (owner_o sr 0 rfl hG.ok (x := (j : Int)) (g := g) (o := (st j).owner) (r := (r : Int)) (c := 0) (Or.inr ⟨j, hjN, rfl, hown, hgen, rfl, hr.symm, rfl⟩))
              have r1 : (1 : Int) ≤ (r : Int) := by omega
              have r2 : (r : Int) ≤ 100 := by omega
              have o1 : (1 : Int) ≤ (st j).owner := by omega
              have o2 : (st j).owner ≤ 3 := by omega
              have t1 : decide ((r : Int) < 1) = false := decide_eq_false (by omega)
              have t2 : decide ((st j).owner < 1) = false := decide_eq_false (by omega)
              have t3 : decide (3 < (st j).owner) = false := decide_eq_false (by omega)
              have HG := Lib.hid hG
              have HR := Lib.hid hr
              have HJ := Lib.hid hgen
              have HO := Lib.hid hown
              have hgl : (0 : Int) ≤ 200 + (m : Int) ∧ 200 + (m : Int) + 1 < 9223372036854775807 := by omega
              have DR := Lib.hid (fun k (hk : k ≤ r) => (show POK N (updB st j (db g r (st j).bs k)) (200 + (m : Int) + 1) by have h := db_pok HG.out hjN HR.out hk hgl.2; rw [HJ.out] at h; exact h))
              have FR := Lib.hid (show Good N (updB st j (db g r (st j).bs r)) (l.drop (m + 1)) zs (200 + (m : Int) + 1) by have h := HG.out.freed hjN HR.out hgl.2; rw [HJ.out] at h; exact h)
              clear hG hr hgen hown og oo orf ob hr1 sr x0 xn
              by_cases hone : (st j).owner = 1
              · have t4 : ((st j).owner != 1) = false := by simp [bne, hone]
                have t5 : ((st j).owner == 1) = true := by simp [hone]
                have e1 : st = updB st j (db g r (st j).bs 0) := by
                  rw [db_zero (by omega)]
                  have : (⟨g, 1, (r : Int), (st j).bs⟩ : Buf) = st j := by rw [← HJ.out, ← hone, ← HR.out]
                  rw [this, updB_id]
                have E1 := Lib.hid e1
                have E2 := Lib.hid (rfl : (st j).bs = (st j).bs)
                generalize hoo : (st j).owner = oo at *
                clear e1 hone hoo
                go_wp2_with fail
                refine OW.out.mono ?_
                rintro e w7 ⟨rfl, s7⟩
                go_wp2_with fail
                have s8 : St w None w7 [PoolR p N (updB st j (db g r (st j).bs 0)), HL (some ⟨hb, ho, none⟩) cp l] := by rw [← E1.out]; exact s7
                clear s7 OW
                clear t1 t2 t3 t4 t5
                go_loopw [16] (fun i wr => ∃ t : Nat, t ≤ r ∧ i = .int .i64 t ∧ St w None wr [PoolR p N (updB st j (db g r (st j).bs t)), HL (some ⟨hb, ho, none⟩) cp l]) (fun i _ => r - (intOf i).toNat)
                case atStart => exact ⟨0, by omega, rfl, s8⟩
                case round =>
                  clear s8
                  obtain ⟨t, ht, rfl, sr⟩ := hrel
                  obtain ⟨q2, q3⟩ := hl_cells sr 1 rfl HX.out
                  by_cases htr : t < r
                  · have DV : Via N (updB st j (db g r (st j).bs t)) (j : Int) g DropB 0 (updB st j (db g r (st j).bs (t + 1))) := by
                      obtain ⟨l1, l2⟩ := db_live (g := g) (r := r) (bs := (st j).bs) htr
                      refine Or.inr ⟨j, db g r (st j).bs (t + 1), hjN, rfl, by rw [updB_self]; exact l1, by rw [updB_self]; exact l2, by rw [updB_self]; exact db_drop htr, (updB_two _ _ _ _).symm⟩
                    have GO := Lib.hid (drop_o sr 0 rfl (DR.out t (by omega)) DV)
                    clear sr DV
                    go_wp2_with fail
                    refine GO.out.mono ?_
                    rintro e w9 ⟨rfl, s9⟩
                    go_wp2_with fail
                    go_roundw
                    case rel => exact ⟨t + 1, by omega, by go_num, s9⟩
                    case measure => simp [intOf]; omega
                  · obtain rfl : t = r := by omega
                    go_wp2_with fail
                    go_roundw
                    case rel => exact ⟨m + 1, _, by omega, by go_num, FR.out.more (fun _ h => h) (by omega) (by omega), sr⟩
                    case measure => simp [intOf]; omega
              · have t4 : ((st j).owner != 1) = true := by simp [bne, hone]
                have t5 : ((st j).owner == 1) = false := by simp [hone]
                have GVr : Via N st (j : Int) g (GiveB (st j).owner 1) 0 (updB st j (db g r (st j).bs 0)) := by
                  refine Or.inr ⟨j, _, hjN, rfl, HO.out, HJ.out, Or.inr (Or.inr ⟨⟨by unfold who; omega, by unfold who; omega, hone⟩, rfl, rfl, ?_⟩), rfl⟩
                  rw [db_zero (by omega), ← HJ.out, ← HR.out]
                have GV := Lib.hid GVr
                have HOK := Lib.hid HG.out.ok
                generalize hoo : (st j).owner = oo at *
                clear GVr hone hoo
                go_wp2_with fail
                refine OW.out.mono ?_
                rintro e w7 ⟨rfl, s7'⟩
                have s7 : St w None w7 [PoolR p N st, HL (some ⟨hb, ho, none⟩) cp l] := s7'
                obtain ⟨q2, q3⟩ := hl_cells s7 1 rfl HX.out
                have GO := Lib.hid (give_o s7 0 rfl HOK.out GV.out)
                clear s7 s7' OW q0 q1
                go_wp2_with fail
                refine GO.out.mono ?_
                rintro e w8 ⟨rfl, s8'⟩
                go_wp2_with fail
                have s8 : St w None w8 [PoolR p N (updB st j (db g r (st j).bs 0)), HL (some ⟨hb, ho, none⟩) cp l] := s8'
                clear s8' GO q2 q3
                clear t1 t2 t3 t4 t5
                go_loopw [16] (fun i wr => ∃ t : Nat, t ≤ r ∧ i = .int .i64 t ∧ St w None wr [PoolR p N (updB st j (db g r (st j).bs t)), HL (some ⟨hb, ho, none⟩) cp l]) (fun i _ => r - (intOf i).toNat)
                case atStart => exact ⟨0, by omega, rfl, s8⟩
                case round =>
                  clear s8
                  obtain ⟨t, ht, rfl, sr⟩ := hrel
                  obtain ⟨q2, q3⟩ := hl_cells sr 1 rfl HX.out
                  by_cases htr : t < r
                  · have DV : Via N (updB st j (db g r (st j).bs t)) (j : Int) g DropB 0 (updB st j (db g r (st j).bs (t + 1))) := by
                      obtain ⟨l1, l2⟩ := db_live (g := g) (r := r) (bs := (st j).bs) htr
                      refine Or.inr ⟨j, db g r (st j).bs (t + 1), hjN, rfl, by rw [updB_self]; exact l1, by rw [updB_self]; exact l2, by rw [updB_self]; exact db_drop htr, (updB_two _ _ _ _).symm⟩
                    have GO := Lib.hid (drop_o sr 0 rfl (DR.out t (by omega)) DV)
                    clear sr DV
                    go_wp2_with fail
                    refine GO.out.mono ?_
                    rintro e w9 ⟨rfl, s9⟩
                    go_wp2_with fail
                    go_roundw
                    case rel => exact ⟨t + 1, by omega, by go_num, s9⟩
                    case measure => simp [intOf]; omega
                  · obtain rfl : t = r := by omega
                    go_wp2_with fail
                    go_roundw
                    case rel => exact ⟨m + 1, _, by omega, by go_num, FR.out.more (fun _ h => h) (by omega) (by omega), sr⟩
                    case measure => simp [intOf]; omega
            · have HG := Lib.hid (hG.pass hlv)
              have OW := Lib.hid (owner_o sr 0 rfl hG.ok (x := x) (g := g) (o := 0) (r := 0) (c := 3) (Or.inl ⟨hlv, rfl, rfl, rfl⟩))
              clear hG hlv sr
              go_wp2_with fail
              refine OW.out.mono ?_
              rintro e w7 ⟨rfl, s7⟩
              go_wp2_with fail
              go_roundw
              case rel => exact ⟨m + 1, st, by omega, by go_num, HG.out.more (fun _ h => h) (by omega) (by omega), s7⟩
              case measure => simp [intOf]; omega
          · obtain rfl : m = l.length := by omega
            rw [List.drop_length] at hG
            have hA := hG.all_free
            have hn1 := hG.ok.n1
            have hlz := HNN.out
            have len0 := hG.len 0 (by omega)
            have lenN := hG.len (N - 1) (by omega)
            have z1 := HZ1.out (zs.getD 0 0) (by simp [List.getD, List.getElem?_eq_getElem (show 0 < zs.length by omega)])
            have zN := HZ1.out (zs.getD (N - 1) 0) (by simp [List.getD, List.getElem?_eq_getElem (show N - 1 < zs.length by omega)])
            rw [← len0] at z1
            rw [← lenN] at zN
            have hz0 := HZ0.out.1
            rw [← len0] at hz0
            obtain ⟨q, hq⟩ : ∃ q, (st 0).bs.length = q := ⟨_, rfl⟩
            rw [hq] at z1 hz0
            have hq65 : q ≤ 65536 := by have := (hG.ok.b 0 (by omega)).2.2.2; omega
            have hP : GetP N st 1 0 (st 0).gen 0 (updB st 0 (got (st 0))) := Or.inr (Or.inr ⟨⟨by omega, by omega⟩, 0, by omega, fun j hj => absurd hj (by omega), ⟨hA 0 (by omega), by rw [hq]; omega⟩, rfl, rfl, rfl, rfl⟩)
            have hgl : (200 : Int) + (l.length : Int) + 1 < 9223372036854775807 := by omega
            have hG2 := ((hP.good hG hgl).resolve_left fun h => h.1 rfl).2
            have hbs : (got (st 0)).bs = List.replicate q 0 := by show List.replicate (st 0).bs.length 0 = _; rw [hq]
            have SZ : SizeP N (updB st 0 (got (st 0))) 0 (st 0).gen (q : Int) 0 := Or.inr ⟨0, by omega, rfl, by rw [updB_self]; exact (show (1 : Int) ≠ 0 by omega), by rw [updB_self]; rfl, by rw [updB_self, hbs, List.length_replicate], rfl⟩
            have RP : ReadP N (updB st 0 (got (st 0))) 0 (st 0).gen 0 (q : Int) (List.replicate q 0) 0 := Or.inr ⟨0, by omega, rfl, by rw [updB_self]; exact (show (1 : Int) ≠ 0 by omega), by rw [updB_self]; rfl, Or.inr ⟨by rw [updB_self, hbs, List.length_replicate]; unfold fits; omega, rfl, by rw [updB_self, hbs]; simp⟩⟩
            have FO := Lib.hid (free_o sr 0 rfl hG.ok N (frees_all N hA).symm)
            have HP := Lib.hid hP
            have HG := Lib.hid hG
            have HG2 := Lib.hid hG2
            have HS := Lib.hid SZ
            have HRP := Lib.hid RP
            have HZQ : Z 0 = (q : Int) := by
              have h := HM.out.2 0 (by have := HM.out.1.1; omega)
              unfold okC at h
              have : prevZ Z 0 = 0 := rfl
              omega
            have HZ := Lib.hid HZQ
            clear hA hG hP hG2 hbs SZ RP sr hlz len0 lenN zN hz0 HZQ hq
            generalize (st 0).gen = g0 at *
            go_wp2_with fail
            refine FO.out.mono ?_
            rintro e w7 ⟨rfl, s7⟩
            go_wp2_with fail
            refine (count_o s7 0 rfl).mono ?_
            rintro e w8 ⟨rfl, s8'⟩
            have s8 : St w None w8 [PoolR p N st, HL B cp l] := s8'
            clear s7 s8' FO
            go_wp2_with fail
            refine (get_o s8 0 rfl HG.out.ok HP.out).mono ?_
            rintro e w9 ⟨rfl, s9'⟩
            have s9 : St w None (w9.alloc (.cells #[.int .i64 0, .int .u64 g0] 34)) [PoolR p N (updB st 0 (got (st 0))), HL B cp l, BlkR w9.heap.size 34 #[.int .i64 0, .int .u64 g0]] := s9'.box 34 #[.int .i64 0, .int .u64 g0]
            clear s8 s9'
            obtain ⟨h0, h1⟩ := (s9.blk 2 rfl).two
            have SO := Lib.hid (size_o s9 0 rfl HG2.out.ok HS.out)
            clear s9
            go_wp2_with fail
            refine SO.out.mono ?_
            rintro e wA ⟨rfl, sA'⟩
            have sA : St w None wA [PoolR p N (updB st 0 (got (st 0))), HL B cp l, BlkR w9.heap.size 34 #[.int .i64 0, .int .u64 g0]] := sA'
            clear sA' SO h0 h1
            obtain ⟨h0, h1⟩ := (sA.blk 2 rfl).two
            have RR := read_o sA 0 rfl HG2.out.ok HRP.out
            simp only [List.length_replicate] at RR
            have RO := Lib.hid RR
            clear sA RR
            go_wp2_with fail
            refine RO.out.mono ?_
            rintro e wB ⟨BB, cB, rfl, sB'⟩
            have sB : St w None wB [PoolR p N (updB st 0 (got (st 0))), HL B cp l, BlkR w9.heap.size 34 #[.int .i64 0, .int .u64 g0], LisR 5 1 (.slice BB q cB) q (bys (List.replicate q 0))] := sB'
            clear sB' RO h0 h1
            go_wp2_with fail
            go_loopw [23] (fun i wr => ∃ t : Nat, t ≤ q ∧ i = .int .i64 t ∧ St w None wr [PoolR p N (updB st 0 (got (st 0))), HL B cp l, BlkR w9.heap.size 34 #[.int .i64 0, .int .u64 g0], LisR 5 1 (.slice BB q cB) q (bys (List.replicate q 0))]) (fun i _ => q - (intOf i).toNat)
            case atStart => exact ⟨0, by omega, rfl, sB⟩
            case round =>
              clear sB
              obtain ⟨t, ht, rfl, sr⟩ := hrel
              by_cases htq : t < q
              · rcases (sr.lis 3 rfl).reads.2 with h0 | ⟨gb, ob, rfl, hc⟩
                · omega
                have ec : wr.cell? ⟨gb, ob + t, none⟩ = some (.int .u8 0) := hc t _ (by simp [bys, htq])
                clear hc
                go_wp2_with fail
                go_roundw
                case rel => exact ⟨t + 1, by omega, by go_num, sr⟩
                case measure => simp [intOf]; omega
              · obtain rfl : t = q := by omega
                have hn1' : 0 < n := by have := HM.out.1.1; omega
                obtain ⟨ib', off', rfl, e0, -⟩ := RD.out.at2 sr.below (k := 0) hn1'
                rw [(HV.out 0 hn1').1, HZ.out] at e0
                have e0' : wr.cell? ⟨ib', off', none⟩ = some (.int .i64 (t : Int)) := by simpa using e0
                go_wp2_with fail
                go_ret
                exact ⟨rfl, sr.below⟩
      · have d0 : decide ((k : Int) < (n2 : Int)) = false := decide_eq_false (by omega)
        have d0' : decide (k < n2) = false := decide_eq_false hlt
        clear hgo hG hll hk hk2
        go_wp2_with fail
        go_loopw [12] (fun i wr => ∃ (m : Nat) (st : Nat → Buf), m ≤ l.length ∧ i = .int .i64 m ∧ Good N st (l.drop m) zs (200 + (m : Int)) ∧ St w None wr [PoolR p N st, HL B cp l]) (fun i _ => l.length - (intOf i).toNat)
        case atStart => exact ⟨0, st, by omega, rfl, GD, sr⟩
        case round =>
          clear sr GD d0 d0'
          obtain ⟨m, st, hm, rfl, hG, sr⟩ := hrel
          have hl120 := HLL.out
          by_cases hlt : m < l.length
          · obtain ⟨⟨x, g⟩, hxg⟩ : ∃ a, l[m]? = some a := ⟨_, List.getElem?_eq_getElem hlt⟩
            have hdr : l.drop m = (x, g) :: l.drop (m + 1) := by
              rw [List.drop_eq_getElem_cons hlt]
              congr 1
              rw [List.getElem?_eq_getElem hlt] at hxg
              exact Option.some.inj hxg
            rw [hdr] at hG
            obtain ⟨A', cap', hv, -, -, -, hcell⟩ := sr.lis_cells 1 rfl
            injection hv with hv1 _ hv2
            subst hv1 hv2
            obtain ⟨hb, ho, rfl, -⟩ := hcell.resolve_left (by omega)
            obtain ⟨q0, q1⟩ := hl_cells sr 1 rfl hxg
            have HX := Lib.hid hxg
            clear hcell hdr hxg
            by_cases hlv : live N st x g
            · obtain ⟨⟨x0, xn⟩, hown, hgen⟩ := hlv
              obtain ⟨j, rfl⟩ := Int.eq_ofNat_of_zero_le x0
              rw [Int.toNat_natCast] at hown hgen
              have hjN : j < N := by omega
              obtain ⟨hr1, -⟩ := hG.held j hjN hown
              obtain ⟨og, oo, orf, ob⟩ := hG.ok.b j hjN
              obtain ⟨r, hr⟩ := Int.eq_ofNat_of_zero_le orf.1
              have OW := Lib.hid (owner_o sr 0 rfl hG.ok (x := (j : Int)) (g := g) (o := (st j).owner) (r := (r : Int)) (c := 0) (Or.inr ⟨j, hjN, rfl, hown, hgen, rfl, hr.symm, rfl⟩))
              have r1 : (1 : Int) ≤ (r : Int) := by omega
              have r2 : (r : Int) ≤ 100 := by omega
              have o1 : (1 : Int) ≤ (st j).owner := by omega
              have o2 : (st j).owner ≤ 3 := by omega
              have t1 : decide ((r : Int) < 1) = false := decide_eq_false (by omega)
              have t2 : decide ((st j).owner < 1) = false := decide_eq_false (by omega)
              have t3 : decide (3 < (st j).owner) = false := decide_eq_false (by omega)
              have HG := Lib.hid hG
              have HR := Lib.hid hr
              have HJ := Lib.hid hgen
              have HO := Lib.hid hown
              have hgl : (0 : Int) ≤ 200 + (m : Int) ∧ 200 + (m : Int) + 1 < 9223372036854775807 := by omega
              have DR := Lib.hid (fun k (hk : k ≤ r) => (show POK N (updB st j (db g r (st j).bs k)) (200 + (m : Int) + 1) by have h := db_pok HG.out hjN HR.out hk hgl.2; rw [HJ.out] at h; exact h))
              have FR := Lib.hid (show Good N (updB st j (db g r (st j).bs r)) (l.drop (m + 1)) zs (200 + (m : Int) + 1) by have h := HG.out.freed hjN HR.out hgl.2; rw [HJ.out] at h; exact h)
              clear hG hr hgen hown og oo orf ob hr1 sr x0 xn
              by_cases hone : (st j).owner = 1
              · have t4 : ((st j).owner != 1) = false := by simp [bne, hone]
                have t5 : ((st j).owner == 1) = true := by simp [hone]
                have e1 : st = updB st j (db g r (st j).bs 0) := by
                  rw [db_zero (by omega)]
                  have : (⟨g, 1, (r : Int), (st j).bs⟩ : Buf) = st j := by rw [← HJ.out, ← hone, ← HR.out]
                  rw [this, updB_id]
                have E1 := Lib.hid e1
                have E2 := Lib.hid (rfl : (st j).bs = (st j).bs)
                generalize hoo : (st j).owner = oo at *
                clear e1 hone hoo
                go_wp2_with fail
                refine OW.out.mono ?_
                rintro e w7 ⟨rfl, s7⟩
                go_wp2_with fail
                have s8 : St w None w7 [PoolR p N (updB st j (db g r (st j).bs 0)), HL (some ⟨hb, ho, none⟩) cp l] := by rw [← E1.out]; exact s7
                clear s7 OW
                clear t1 t2 t3 t4 t5
                go_loopw [16] (fun i wr => ∃ t : Nat, t ≤ r ∧ i = .int .i64 t ∧ St w None wr [PoolR p N (updB st j (db g r (st j).bs t)), HL (some ⟨hb, ho, none⟩) cp l]) (fun i _ => r - (intOf i).toNat)
                case atStart => exact ⟨0, by omega, rfl, s8⟩
                case round =>
                  clear s8
                  obtain ⟨t, ht, rfl, sr⟩ := hrel
                  obtain ⟨q2, q3⟩ := hl_cells sr 1 rfl HX.out
                  by_cases htr : t < r
                  · have DV : Via N (updB st j (db g r (st j).bs t)) (j : Int) g DropB 0 (updB st j (db g r (st j).bs (t + 1))) := by
                      obtain ⟨l1, l2⟩ := db_live (g := g) (r := r) (bs := (st j).bs) htr
                      refine Or.inr ⟨j, db g r (st j).bs (t + 1), hjN, rfl, by rw [updB_self]; exact l1, by rw [updB_self]; exact l2, by rw [updB_self]; exact db_drop htr, (updB_two _ _ _ _).symm⟩
                    have GO := Lib.hid (drop_o sr 0 rfl (DR.out t (by omega)) DV)
                    clear sr DV
                    go_wp2_with fail
                    refine GO.out.mono ?_
                    rintro e w9 ⟨rfl, s9⟩
                    go_wp2_with fail
                    go_roundw
                    case rel => exact ⟨t + 1, by omega, by go_num, s9⟩
                    case measure => simp [intOf]; omega
                  · obtain rfl : t = r := by omega
                    go_wp2_with fail
                    go_roundw
                    case rel => exact ⟨m + 1, _, by omega, by go_num, FR.out.more (fun _ h => h) (by omega) (by omega), sr⟩
                    case measure => simp [intOf]; omega
              · have t4 : ((st j).owner != 1) = true := by simp [bne, hone]
                have t5 : ((st j).owner == 1) = false := by simp [hone]
                have GVr : Via N st (j : Int) g (GiveB (st j).owner 1) 0 (updB st j (db g r (st j).bs 0)) := by
                  refine Or.inr ⟨j, _, hjN, rfl, HO.out, HJ.out, Or.inr (Or.inr ⟨⟨by unfold who; omega, by unfold who; omega, hone⟩, rfl, rfl, ?_⟩), rfl⟩
                  rw [db_zero (by omega), ← HJ.out, ← HR.out]
                have GV := Lib.hid GVr
                have HOK := Lib.hid HG.out.ok
                generalize hoo : (st j).owner = oo at *
                clear GVr hone hoo
                go_wp2_with fail
                refine OW.out.mono ?_
                rintro e w7 ⟨rfl, s7'⟩
                have s7 : St w None w7 [PoolR p N st, HL (some ⟨hb, ho, none⟩) cp l] := s7'
                obtain ⟨q2, q3⟩ := hl_cells s7 1 rfl HX.out
                have GO := Lib.hid (give_o s7 0 rfl HOK.out GV.out)
                clear s7 s7' OW q0 q1
                go_wp2_with fail
                refine GO.out.mono ?_
                rintro e w8 ⟨rfl, s8'⟩
                go_wp2_with fail
                have s8 : St w None w8 [PoolR p N (updB st j (db g r (st j).bs 0)), HL (some ⟨hb, ho, none⟩) cp l] := s8'
                clear s8' GO q2 q3
                clear t1 t2 t3 t4 t5
                go_loopw [16] (fun i wr => ∃ t : Nat, t ≤ r ∧ i = .int .i64 t ∧ St w None wr [PoolR p N (updB st j (db g r (st j).bs t)), HL (some ⟨hb, ho, none⟩) cp l]) (fun i _ => r - (intOf i).toNat)
                case atStart => exact ⟨0, by omega, rfl, s8⟩
                case round =>
                  clear s8
                  obtain ⟨t, ht, rfl, sr⟩ := hrel
                  obtain ⟨q2, q3⟩ := hl_cells sr 1 rfl HX.out
                  by_cases htr : t < r
                  · have DV : Via N (updB st j (db g r (st j).bs t)) (j : Int) g DropB 0 (updB st j (db g r (st j).bs (t + 1))) := by
                      obtain ⟨l1, l2⟩ := db_live (g := g) (r := r) (bs := (st j).bs) htr
                      refine Or.inr ⟨j, db g r (st j).bs (t + 1), hjN, rfl, by rw [updB_self]; exact l1, by rw [updB_self]; exact l2, by rw [updB_self]; exact db_drop htr, (updB_two _ _ _ _).symm⟩
                    have GO := Lib.hid (drop_o sr 0 rfl (DR.out t (by omega)) DV)
                    clear sr DV
                    go_wp2_with fail
                    refine GO.out.mono ?_
                    rintro e w9 ⟨rfl, s9⟩
                    go_wp2_with fail
                    go_roundw
                    case rel => exact ⟨t + 1, by omega, by go_num, s9⟩
                    case measure => simp [intOf]; omega
                  · obtain rfl : t = r := by omega
                    go_wp2_with fail
                    go_roundw
                    case rel => exact ⟨m + 1, _, by omega, by go_num, FR.out.more (fun _ h => h) (by omega) (by omega), sr⟩
                    case measure => simp [intOf]; omega
            · have HG := Lib.hid (hG.pass hlv)
              have OW := Lib.hid (owner_o sr 0 rfl hG.ok (x := x) (g := g) (o := 0) (r := 0) (c := 3) (Or.inl ⟨hlv, rfl, rfl, rfl⟩))
              clear hG hlv sr
              go_wp2_with fail
              refine OW.out.mono ?_
              rintro e w7 ⟨rfl, s7⟩
              go_wp2_with fail
              go_roundw
              case rel => exact ⟨m + 1, st, by omega, by go_num, HG.out.more (fun _ h => h) (by omega) (by omega), s7⟩
              case measure => simp [intOf]; omega
          · obtain rfl : m = l.length := by omega
            rw [List.drop_length] at hG
            have hA := hG.all_free
            have hn1 := hG.ok.n1
            have hlz := HNN.out
            have len0 := hG.len 0 (by omega)
            have lenN := hG.len (N - 1) (by omega)
            have z1 := HZ1.out (zs.getD 0 0) (by simp [List.getD, List.getElem?_eq_getElem (show 0 < zs.length by omega)])
            have zN := HZ1.out (zs.getD (N - 1) 0) (by simp [List.getD, List.getElem?_eq_getElem (show N - 1 < zs.length by omega)])
            rw [← len0] at z1
            rw [← lenN] at zN
            have hz0 := HZ0.out.1
            rw [← len0] at hz0
            obtain ⟨q, hq⟩ : ∃ q, (st 0).bs.length = q := ⟨_, rfl⟩
            rw [hq] at z1 hz0
            have hq65 : q ≤ 65536 := by have := (hG.ok.b 0 (by omega)).2.2.2; omega
            have hP : GetP N st 1 0 (st 0).gen 0 (updB st 0 (got (st 0))) := Or.inr (Or.inr ⟨⟨by omega, by omega⟩, 0, by omega, fun j hj => absurd hj (by omega), ⟨hA 0 (by omega), by rw [hq]; omega⟩, rfl, rfl, rfl, rfl⟩)
            have hgl : (200 : Int) + (l.length : Int) + 1 < 9223372036854775807 := by omega
            have hG2 := ((hP.good hG hgl).resolve_left fun h => h.1 rfl).2
            have hbs : (got (st 0)).bs = List.replicate q 0 := by show List.replicate (st 0).bs.length 0 = _; rw [hq]
            have SZ : SizeP N (updB st 0 (got (st 0))) 0 (st 0).gen (q : Int) 0 := Or.inr ⟨0, by omega, rfl, by rw [updB_self]; exact (show (1 : Int) ≠ 0 by omega), by rw [updB_self]; rfl, by rw [updB_self, hbs, List.length_replicate], rfl⟩
            have RP : ReadP N (updB st 0 (got (st 0))) 0 (st 0).gen 0 (q : Int) (List.replicate q 0) 0 := Or.inr ⟨0, by omega, rfl, by rw [updB_self]; exact (show (1 : Int) ≠ 0 by omega), by rw [updB_self]; rfl, Or.inr ⟨by rw [updB_self, hbs, List.length_replicate]; unfold fits; omega, rfl, by rw [updB_self, hbs]; simp⟩⟩
            have FO := Lib.hid (free_o sr 0 rfl hG.ok N (frees_all N hA).symm)
            have HP := Lib.hid hP
            have HG := Lib.hid hG
            have HG2 := Lib.hid hG2
            have HS := Lib.hid SZ
            have HRP := Lib.hid RP
            have HZQ : Z 0 = (q : Int) := by
              have h := HM.out.2 0 (by have := HM.out.1.1; omega)
              unfold okC at h
              have : prevZ Z 0 = 0 := rfl
              omega
            have HZ := Lib.hid HZQ
            clear hA hG hP hG2 hbs SZ RP sr hlz len0 lenN zN hz0 HZQ hq
            generalize (st 0).gen = g0 at *
            go_wp2_with fail
            refine FO.out.mono ?_
            rintro e w7 ⟨rfl, s7⟩
            go_wp2_with fail
            refine (count_o s7 0 rfl).mono ?_
            rintro e w8 ⟨rfl, s8'⟩
            have s8 : St w None w8 [PoolR p N st, HL B cp l] := s8'
            clear s7 s8' FO
            go_wp2_with fail
            refine (get_o s8 0 rfl HG.out.ok HP.out).mono ?_
            rintro e w9 ⟨rfl, s9'⟩
            have s9 : St w None (w9.alloc (.cells #[.int .i64 0, .int .u64 g0] 34)) [PoolR p N (updB st 0 (got (st 0))), HL B cp l, BlkR w9.heap.size 34 #[.int .i64 0, .int .u64 g0]] := s9'.box 34 #[.int .i64 0, .int .u64 g0]
            clear s8 s9'
            obtain ⟨h0, h1⟩ := (s9.blk 2 rfl).two
            have SO := Lib.hid (size_o s9 0 rfl HG2.out.ok HS.out)
            clear s9
            go_wp2_with fail
            refine SO.out.mono ?_
            rintro e wA ⟨rfl, sA'⟩
            have sA : St w None wA [PoolR p N (updB st 0 (got (st 0))), HL B cp l, BlkR w9.heap.size 34 #[.int .i64 0, .int .u64 g0]] := sA'
            clear sA' SO h0 h1
            obtain ⟨h0, h1⟩ := (sA.blk 2 rfl).two
            have RR := read_o sA 0 rfl HG2.out.ok HRP.out
            simp only [List.length_replicate] at RR
            have RO := Lib.hid RR
            clear sA RR
            go_wp2_with fail
            refine RO.out.mono ?_
            rintro e wB ⟨BB, cB, rfl, sB'⟩
            have sB : St w None wB [PoolR p N (updB st 0 (got (st 0))), HL B cp l, BlkR w9.heap.size 34 #[.int .i64 0, .int .u64 g0], LisR 5 1 (.slice BB q cB) q (bys (List.replicate q 0))] := sB'
            clear sB' RO h0 h1
            go_wp2_with fail
            go_loopw [23] (fun i wr => ∃ t : Nat, t ≤ q ∧ i = .int .i64 t ∧ St w None wr [PoolR p N (updB st 0 (got (st 0))), HL B cp l, BlkR w9.heap.size 34 #[.int .i64 0, .int .u64 g0], LisR 5 1 (.slice BB q cB) q (bys (List.replicate q 0))]) (fun i _ => q - (intOf i).toNat)
            case atStart => exact ⟨0, by omega, rfl, sB⟩
            case round =>
              clear sB
              obtain ⟨t, ht, rfl, sr⟩ := hrel
              by_cases htq : t < q
              · rcases (sr.lis 3 rfl).reads.2 with h0 | ⟨gb, ob, rfl, hc⟩
                · omega
                have ec : wr.cell? ⟨gb, ob + t, none⟩ = some (.int .u8 0) := hc t _ (by simp [bys, htq])
                clear hc
                go_wp2_with fail
                go_roundw
                case rel => exact ⟨t + 1, by omega, by go_num, sr⟩
                case measure => simp [intOf]; omega
              · obtain rfl : t = q := by omega
                have hn1' : 0 < n := by have := HM.out.1.1; omega
                obtain ⟨ib', off', rfl, e0, -⟩ := RD.out.at2 sr.below (k := 0) hn1'
                rw [(HV.out 0 hn1').1, HZ.out] at e0
                have e0' : wr.cell? ⟨ib', off', none⟩ = some (.int .i64 (t : Int)) := by simpa using e0
                go_wp2_with fail
                go_ret
                exact ⟨rfl, sr.below⟩

set_option maxRecDepth 100000 in
theorem lifted (os : Os) (started : os.Started) (H : Type) (enc : TypeId × Value → H) :
    ReturnsInHanded {} Try.checked os 3 .any (Rows.poolReturnsSpec.pre6 enc Try.prog Try.f3 Rows.poolReturnsRow.domain false) (Rows.poolReturnsSpec.post enc Try.prog Try.f3 false true false false) := by
  refine law_lifted (C := Try.checked) (tb := 4) own started (by kernel_rfl) Try.func3
    (ChangeSpec.witness6 (enc := enc) (C := Try.checked) false ⟨#[], #[.slice none 0 0, .slice none 0 0], []⟩ 8 (by kernel_rfl) (by kernel_rfl) (by kernel_rfl) (by kernel_rfl)) laid (by kernel_rfl) (by kernel_rfl) Try.underlying4 rfl ?_
  intro W base args ds ps hval0 hA0 hlt
  have hval : ∀ (j : Nat) t v, Try.f3.params[j]? = some t → args[j]? = some v → Value.okWide Try.prog W .any base t v := hval0
  have hA : DataW.TrodAll enc Try.prog W 0 (fun _ => true) true Try.f3.params.toList args.toList ds ps := hA0
  clear hA0 hval0
  rw [Try.params3] at hA hval
  obtain ⟨v0, vs0, d0, ds0, p0, q0, hargs, rfl, rfl, h0, r0⟩ := trodAll_cons hA
  obtain ⟨v1, vs1, d1, ds1, p1, q1, rfl, rfl, rfl, h1, r1⟩ := trodAll_cons r0
  obtain ⟨rfl, rfl, rfl⟩ := trodAll_nil r1
  obtain rfl : args = #[v0, v1] := by cases args; simp_all
  obtain ⟨A0, n0, cap0, V0, rfl, le0, mx0, rd0, lf0⟩ := open_slice_spots (m := 2) (d := 20) (l := [(0, 3), (1, 3)]) Try.underlying22 (by kernel_rfl) (by decide) (by kernel_rfl) (hval 0 22 v0 rfl rfl) h0
  have f0_0 := fun j hj => leaf_int Try.underlying3 (lf0 0 3 (by simp) j hj)
  have f0_1 := fun j hj => leaf_int Try.underlying3 (lf0 1 3 (by simp) j hj)
  obtain ⟨A1, n1, cap1, V1, rfl, le1, mx1, rd1, lf1⟩ := open_slice_spots (m := 6) (d := 20) (l := [(0, 3), (1, 3), (2, 32), (3, 3), (4, 3), (5, 35)]) Try.underlying23 (by kernel_rfl) (by decide) (by kernel_rfl) (hval 1 23 v1 rfl rfl) h1
  have f1_0 := fun j hj => leaf_int Try.underlying3 (lf1 0 3 (by simp) j hj)
  have f1_1 := fun j hj => leaf_int Try.underlying3 (lf1 1 3 (by simp) j hj)
  have f1_2 := fun j hj => leaf_int Try.underlying32 (lf1 2 32 (by simp) j hj)
  have f1_3 := fun j hj => leaf_int Try.underlying3 (lf1 3 3 (by simp) j hj)
  have f1_4 := fun j hj => leaf_int Try.underlying3 (lf1 4 3 (by simp) j hj)
  have f1_5 := lf1 5 35 (by simp)
  refine ⟨⟨rfl, rfl, rfl⟩, ?_⟩
  obtain ⟨Z, hZ⟩ := Go.Deep.choose_lt (f0_0)
  obtain ⟨C, hC⟩ := Go.Deep.choose_lt (f0_1)
  obtain ⟨D, hD⟩ := Go.Deep.choose_lt (n := n1) (p := fun j (d : Do) => V1 j 0 = .int .i64 d.k ∧ V1 j 1 = .int .i64 d.x ∧ V1 j 2 = .int .u64 d.g ∧ V1 j 3 = .int .i64 d.a ∧ V1 j 4 = .int .i64 d.b) (fun j hj => by
    obtain ⟨x0, h0, -⟩ := f1_0 j hj
    obtain ⟨x1, h1, -⟩ := f1_1 j hj
    obtain ⟨x2, h2, -⟩ := f1_2 j hj
    obtain ⟨x3, h3, -⟩ := f1_3 j hj
    obtain ⟨x4, h4, -⟩ := f1_4 j hj
    exact ⟨⟨x0, x1, x2, x3, x4⟩, h0, h1, h2, h3, h4⟩)
  exact walk A0 A1 n0 cap0 n1 cap1 V0 V1 Z C D W (by omega) (by omega) rd0 (fun j hj => ⟨(hZ j hj).1, (hC j hj).1, bounds_i64 (hZ j hj).2, bounds_i64 (hC j hj).2⟩) rd1 (fun j hj => by
    obtain ⟨h0, h1, h2, h3, h4⟩ := hD j hj
    refine ⟨h0, h1, h2, h3, h4, ?_⟩
    obtain ⟨B, m, c, V3, e, le, mx, rdm, lf⟩ := leaf_slice (m := 1) (d := 20) (l := [(0, 5)]) Try.underlying35 (by kernel_rfl) (by decide) (by kernel_rfl) (f1_5 j hj)
    obtain ⟨F, hF⟩ := Go.Deep.choose_lt (n := m) (p := fun i (z : Int) => V3 i 0 = .int .u8 z) (fun i hi => by
      obtain ⟨z, hz, _⟩ := leaf_int Try.underlying5 (lf 0 5 (by simp) i hi)
      exact ⟨z, hz⟩)
    refine ⟨B, c, (List.range m).map F, by simpa using e, by simp; omega, fun w' hb => ?_⟩
    refine ⟨by simp [bys], ?_⟩
    by_cases hm : m = 0
    · left; simpa using hm
    · right
      obtain ⟨g, off, rfl, hlt, hcell⟩ := rdm (by omega)
      refine ⟨g, off, rfl, fun i u hu => ?_⟩
      have hi : i < m := by
        rcases Nat.lt_or_ge i m with h | h
        · exact h
        · rw [List.getElem?_eq_none (by simp [bys]; omega)] at hu; cases hu
      have h := hcell i hi 0 (by omega)
      rw [hF i hi] at h
      have hu2 : u = .int .u8 (F i) := by simp [bys, hi] at hu; exact hu.symm
      rw [hu2]
      rw [show off + (i * 1 + 0) = off + i by omega] at h
      exact (hb.cell (p := ⟨g, off + i, none⟩) hlt).trans h)

theorem over : Rows.poolReturnsRow.holds Try.pinned (OpenSpec.ofChange Rows.poolReturnsSpec) :=
  OpenClaim.holds_of_wide 3 Try.f3 rfl rfl rfl rfl rfl rfl rfl ⟨rfl, rfl, rfl, rfl, rfl⟩ rfl rfl rfl rfl rfl (by kernel_rfl) Try.func3 (by kernel_rfl)
    (of_decide_eq_true (by kernel_rfl)) (by unfold Func.isWrapper; first | (rw [if_pos (by decide +kernel)]; kernel_rfl) | (rw [if_neg (by decide +kernel)]; exact ⟨rfl, rfl⟩))
    (fun os started H enc _ => lifted os started H enc)
theorem proved : Rows.PoolReturnsSaid := over
#print axioms proved
end Go.Proofs.Ytceoflpoefehoaa.poolReturns
