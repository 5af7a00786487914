/-
  For every share, every slice of bools and every two 16-bit numbers ShareMost answers true, and changes nothing: in any span no more units are taken, one a tick, than the document's bound. No condition.
-/
import Derived.Test.YtlmfcdfodlcjaaaRows
import Derived.Test.YtlmfcdfodlcjaaaFr
import Derived.Test.YtlmfcdfodlcjaaaShareR
import Derived.LoopTactic
import Derived.Deep.RegionWith
import Derived.Deep.DrawnRows
import Derived.Deep.DeepCutAuto
namespace Go.Proofs.Ytlmfcdfodlcjaaa.shareMost
open Go.ChangeShapes Go.WideShapes Go.ChangeAt Go.RowKit
set_option linter.unusedVariables false
theorem own : ownKnob Try.prog.godebug = none := by kernel_rfl
theorem laid : laidOutB Try.prog = true := by kernel_rfl
/-- What is known of the sum at time t, W the meter's window, T what was taken in it. -/
def J (B P bg t S W T : Int) : Prop := S = 0 ∨ (bg / P ≤ W ∧ W * P ≤ t - 1 ∧ S ≤ t - bg ∧ S ≤ B * (W - bg / P) + T)
theorem J.skip {B P bg t S W T : Int} (h : J B P bg t S W T) : J B P bg (t + 1) S W T := by
  rcases h with h | ⟨h1, h2, h3, h4⟩
  · exact Or.inl h
  · exact Or.inr ⟨h1, by omega, by omega, h4⟩
theorem win_of {P t W : Int} (hP : 1 ≤ P) (h : W * P ≤ t) : W ≤ t / P := (Int.le_ediv_iff_mul_le (by omega)).2 h
theorem J.more {B P bg t S W T v : Int} (h : J B P bg t S W T) (hP : 1 ≤ P) (hB : 0 ≤ B) (ht : 0 ≤ t) (hbt : bg ≤ t) (hW : W * P ≤ t) (hT : 0 ≤ T) (hTB : T ≤ B) (hv : 0 ≤ v) (hv1 : v ≤ 1) : J B P bg (t + 1) (S + v) (t / P) (tkn W T (t / P) + v) := by
  have hK : t / P * P ≤ t := Int.ediv_mul_le _ (by omega)
  have hb : bg / P ≤ t / P := Int.ediv_le_ediv (by omega) hbt
  have hWK := win_of hP hW
  by_cases hz : S + v = 0
  · exact Or.inl hz
  refine Or.inr ⟨hb, by omega, ?_, ?_⟩
  · rcases h with h | ⟨_, _, h3, _⟩ <;> omega
  · have hm : 0 ≤ B * (t / P - bg / P) := Int.mul_nonneg hB (by omega)
    unfold tkn
    rcases h with h | ⟨h1, h2, h3, h4⟩
    · subst h; split <;> omega
    · by_cases e : W = t / P
      · rw [if_pos e, ← e]; omega
      · rw [if_neg e]
        have : B * (W - bg / P) + B ≤ B * (t / P - bg / P) := by
          have h5 : B * (W - bg / P + 1) ≤ B * (t / P - bg / P) := Int.mul_le_mul_of_nonneg_left (by omega) hB
          rw [Int.mul_add] at h5; omega
        omega
theorem J.out {B P bg t S W T W' T' : Int} (h : J B P bg t S W T) (h0 : 0 ≤ S) (hbt : t < bg) : J B P bg (t + 1) S W' T' := by
  rcases h with h | ⟨_, _, h3, _⟩
  · exact Or.inl h
  · omega
theorem J.fin {B P bg n t S W T : Int} (h : J B P bg t S W T) (hs : 1 ≤ B ∧ B ≤ P ∧ P ≤ 1099511627776) (hb : 0 ≤ bg) (hn : 0 ≤ n) (ht : t ≤ bg + n) (hTB : T ≤ B) : S ≤ mst B P n := by
  have hu := tUp_nonneg hn (show 1 ≤ P by omega)
  have hm : 0 ≤ B * (tUp n P + 1) := Int.mul_nonneg (by omega) (by omega)
  rcases h with h | ⟨h1, h2, h3, h4⟩
  · subst h; unfold mst mn; split <;> omega
  · have he := tUp_enough (n := n) (show 1 ≤ P by omega)
    obtain ⟨_, _, _, _, h8⟩ := win_le (t := bg) (p := 0) (d := P) hb (by omega)
    rw [Int.sub_zero] at h8
    have hW : W ≤ bg / P + tUp n P := by
      have h5 : W * P < (bg / P + tUp n P + 1) * P := by rw [Int.add_mul, Int.add_mul]; omega
      have := Int.lt_of_mul_lt_mul_right h5 (by omega); omega
    have h6 : B * (W - bg / P + 1) ≤ B * (tUp n P + 1) := Int.mul_le_mul_of_nonneg_left (by omega) (by omega)
    rw [Int.mul_add] at h6
    unfold mst mn; split <;> omega
/-- The sum, ahead of the span's end and behind it. -/
def K2 (B P bg n t S W T : Int) : Prop := (t ≤ bg + n ∧ J B P bg t S W T) ∨ (bg + n < t ∧ S ≤ mst B P n)
theorem K2.skip {B P bg n t S W T : Int} (h : K2 B P bg n t S W T) (hs : 1 ≤ B ∧ B ≤ P ∧ P ≤ 1099511627776) (hb : 0 ≤ bg) (hn : 0 ≤ n) (hTB : T ≤ B) : K2 B P bg n (t + 1) S W T := by
  rcases h with ⟨h1, h2⟩ | ⟨h1, h2⟩
  · by_cases e : t + 1 ≤ bg + n
    · exact Or.inl ⟨e, h2.skip⟩
    · exact Or.inr ⟨by omega, h2.fin hs hb hn h1 hTB⟩
  · exact Or.inr ⟨by omega, h2⟩
theorem K2.inn {B P bg n t S W T v : Int} (h : K2 B P bg n t S W T) (hs : 1 ≤ B ∧ B ≤ P ∧ P ≤ 1099511627776) (ht : 0 ≤ t) (hb : bg ≤ t) (ht2 : t < bg + n) (hW : W * P ≤ t) (hT : 0 ≤ T) (hTB : T ≤ B) (hv : 0 ≤ v) (hv1 : v ≤ 1) : K2 B P bg n (t + 1) (S + v) (t / P) (tkn W T (t / P) + v) := by
  rcases h with ⟨h1, h2⟩ | ⟨h1, h2⟩
  · exact Or.inl ⟨by omega, h2.more (by omega) (by omega) ht hb hW hT hTB hv hv1⟩
  · omega
theorem K2.out {B P bg n t S W T W' T' : Int} (h : K2 B P bg n t S W T) (hs : 1 ≤ B ∧ B ≤ P ∧ P ≤ 1099511627776) (hb : 0 ≤ bg) (hn : 0 ≤ n) (h0 : 0 ≤ S) (ho : t < bg ∨ bg + n ≤ t) (hTB : T ≤ B) : K2 B P bg n (t + 1) S W' T' := by
  rcases h with ⟨h1, h2⟩ | ⟨h1, h2⟩
  · rcases ho with ho | ho
    · exact Or.inl ⟨by omega, h2.out h0 ho⟩
    · exact Or.inr ⟨by omega, h2.fin hs hb hn h1 hTB⟩
  · exact Or.inr ⟨by omega, h2⟩
theorem K2.fin {B P bg n t S W T : Int} (h : K2 B P bg n t S W T) (hs : 1 ≤ B ∧ B ≤ P ∧ P ≤ 1099511627776) (hb : 0 ≤ bg) (hn : 0 ≤ n) (hTB : T ≤ B) : S ≤ mst B P n := by
  rcases h with ⟨h1, h2⟩ | ⟨h1, h2⟩
  · exact h2.fin hs hb hn h1 hTB
  · exact h2
set_option maxRecDepth 100000
set_option maxHeartbeats 1000000
attribute [local go_sem ↓] Go.wp_at_zero Go.wp_at_succ
theorem walk (B P a c : Int) (A : Option Addr) (n cap : Nat) (f : Nat → Bool) (w : World) (bB : 0 ≤ B ∧ B ≤ 18446744073709551615) (bP : 0 ≤ P ∧ P ≤ 18446744073709551615) (ba : 0 ≤ a ∧ a ≤ 65535) (bc : 0 ≤ c ∧ c ≤ 65535) (hm : n ≤ maxLen) (rd : Rd w A n (fun i => .bool (f i))) :
    Calls Try.prog 4 #[.agg #[.int .u64 B, .int .u64 P], .slice A n cap, .agg #[.int .u16 a, .int .u16 c]] w fun r w' => r = .returned (.bool true) ∧ Below w.heap.size w w' := by
  unfold maxLen at hm
  have g0 : 0 ≤ a % 300 := Int.emod_nonneg _ (by omega)
  have g1 : a % 300 < 300 := Int.emod_lt_of_pos _ (by omega)
  have q0 : 0 ≤ c % 300 := Int.emod_nonneg _ (by omega)
  have q1 : c % 300 < 300 := Int.emod_lt_of_pos _ (by omega)
  by_cases h : 1 ≤ B ∧ B ≤ P ∧ P ≤ 1099511627776
  · go_enter Try.func4, Try.ntmps4
    go_wp2_with fail
    refine (awake_any _).mono ?_
    rintro r w1 ⟨rfl, hw1⟩
    obtain ⟨hx1, hy1, hs1⟩ := boxed2 hw1
    obtain ⟨c1, e1⟩ := hx1.two
    obtain ⟨c0, e0⟩ := hy1.two
    go_wp2_with fail
    have hwc : IntKind.u64.wrap c = c := IntWalk.u64_in c ⟨by omega, by omega⟩
    go_cut [32] (fun s wx => s = .bool false ∧ Blk wx w.heap.size 24 #[.int .u64 B, .int .u64 P] ∧ Below w.heap.size w wx)
    case first =>
      go_region_with (first | (go_at_call 19; refine (most_any B P c _ h (by omega) (by omega)).mono ?_; rintro r w2 ⟨rfl, hw2⟩; have hx2 : Blk w2 w.heap.size 24 #[.int .u64 B, .int .u64 P] := Blk.stay (by exact hx1) hw2; obtain ⟨c2, e2⟩ := hx2.two; have hs2 : Below w.heap.size w w2 := below_then (by first | exact hs1 | exact hs1.drew | exact hs1.drew.drew) hw2; clear hw2) | (go_at_call 20; refine (rmost_any B P c _ h (by omega) (by omega)).mono ?_; rintro r w3 ⟨rfl, hw3⟩; have hx3 : Blk w3 w.heap.size 24 #[.int .u64 B, .int .u64 P] := Blk.stay (by exact hx2) hw3; have hs3 : Below w.heap.size w w3 := below_then (by first | exact hs2 | exact hs2.drew | exact hs2.drew.drew) hw3; clear hw3))
      all_goals (go_wp2_with fail; go_meet; exact ⟨by simp, hx3, by first | exact hs3 | exact hs3.drew | exact hs3.drew.drew | exact hs3.drew.drew.drew⟩)
    case rest =>
    clear hx1 hy1 hs1 c0 e0 c1 e1 hwc hw1
    obtain ⟨rfl, hx3, hs3⟩ := hcut
    obtain ⟨c3, e3⟩ := hx3.two
    go_wp2_with fail
    refine (new_ok B P 5 _ h (by omega)).mono ?_
    rintro r w4 ⟨b, hB, rfl, hb4, hw4⟩
    have hx4 := hx3.stay hw4
    obtain ⟨c4, e4⟩ := hx4.two
    have hs4 := below_then hs3 hw4
    have hbB : w.heap.size ≤ b := Nat.le_trans hs3.size hB
    have hbn : w.heap.size ≠ b := by have := hx3.lt; omega
    clear c3 e3 c4 e4
    generalize hbg : a % 300 = bg at *
    generalize hsp : c % 300 = sp at *
    go_wp2_with fail
    try rw [hbg]
    try rw [hsp]
    clear hsp hbg
    go_loopw [14, 15] (fun sm i wr => ∃ k : Nat, ∃ S N W T : Int, k ≤ 300 ∧ i = .int .i64 k ∧ sm = .int .u64 S ∧ 0 ≤ S ∧ S ≤ k ∧ 5 ≤ N ∧ N ≤ 5 + k ∧ W * P ≤ k ∧ 0 ≤ T ∧ T ≤ B ∧ K2 B P bg sp k S W T ∧ Mk wr b B P 5 N W T ∧ Blk wr w.heap.size 24 #[.int .u64 B, .int .u64 P] ∧ Below w.heap.size w wr) (fun _ i _ => 300 - (intOf i).toNat)
    case atStart => exact ⟨0, 0, 5, 0, 0, by omega, rfl, rfl, by omega, by omega, by omega, by omega, by simp, by omega, by omega, Or.inl ⟨by omega, Or.inl rfl⟩, hb4, hx4, hs4⟩
    case round =>
      obtain ⟨k, S, N, W, T, hk, rfl, rfl, s0, s1, n0, n1, hW, t0, t1, hK, hb, hx, hs⟩ := hrel
      by_cases hlt : k < 300
      · have ho : MOK B P 5 N W T := ⟨by omega, by omega, by omega, by omega, by omega, by omega, by omega⟩
        have HKs := Lib.hid (hK.skip h g0 q0 t1)
        have HK := Lib.hid (show (5 + (k : Int) - 5) / P = k / P by rw [show 5 + (k : Int) - 5 = k by omega])
        have hkp : (k : Int) / P * P ≤ k := Int.ediv_mul_le _ (by omega)
        have bt := tkn_bd (W := W) (K := (k : Int) / P) t0 t1
        obtain ⟨t', ht'⟩ : ∃ t', tkn W T ((k : Int) / P) = t' := ⟨_, rfl⟩
        rw [ht'] at bt
        obtain ⟨v, hv⟩ : ∃ v, mn 1 (B - t') = v := ⟨_, rfl⟩
        have bv := mn_bd (n := 1) (l := B - t') (by omega) (by omega)
        rw [hv] at bv
        obtain ⟨v0, v2, v1⟩ := bv
        have dv : decide (1 < v) = false := decide_eq_false (by omega)
        have HT := Lib.hid ht'
        have HV := Lib.hid hv
        clear ht' hv
        by_cases hn0 : n = 0
        · subst hn0
          clear rd
          by_cases hin : bg ≤ (k : Int) ∧ (k : Int) < bg + sp
          · have da : decide (bg ≤ (k : Int)) = true := decide_eq_true hin.1
            have db : decide ((k : Int) < bg + sp) = true := decide_eq_true hin.2
            have HN := Lib.hid (show K2 B P bg sp ((k : Int) + 1) (S + v) (k / P) (t' + v) from HT.out ▸ hK.inn h (by omega) hin.1 hin.2 hW t0 t1 v0 v1)
            clear hin
            go_wp2_with fail
            refine (take_g b B P 5 N W T (5 + k) 1 (k / P) t' v _ hb ho (by omega) (by omega) (by omega) HK.out HT.out HV.out).mono ?_
            rintro r w6 ⟨rfl, hb6, ho6⟩
            have hx6 := ho6.blk hx hbn
            have hs6 := below_only hs ho6 hbB (Nat.le_refl _)
            go_wp2
            go_roundw
            case rel => exact ⟨k + 1, S + v, 5 + k, k / P, t' + v, by omega, by go_num, rfl, by omega, by omega, by omega, by omega, by omega, by omega, by omega, by rw [show (((k + 1 : Nat) : Int)) = (k : Int) + 1 by omega]; exact HN.out, hb6, hx6, hs6⟩
            case measure => simp [intOf]; omega
          · have HN := Lib.hid (show K2 B P bg sp ((k : Int) + 1) S (k / P) (t' + v) from hK.out h g0 q0 s0 (by omega) t1)
            by_cases hi1 : bg ≤ (k : Int)
            · have da : decide (bg ≤ (k : Int)) = true := decide_eq_true hi1
              have db : decide ((k : Int) < bg + sp) = false := decide_eq_false (by omega)
              clear hin
              go_wp2_with fail
              refine (take_g b B P 5 N W T (5 + k) 1 (k / P) t' v _ hb ho (by omega) (by omega) (by omega) HK.out HT.out HV.out).mono ?_
              rintro r w6 ⟨rfl, hb6, ho6⟩
              have hx6 := ho6.blk hx hbn
              have hs6 := below_only hs ho6 hbB (Nat.le_refl _)
              go_wp2
              go_roundw
              case rel => exact ⟨k + 1, S, 5 + k, k / P, t' + v, by omega, by go_num, rfl, by omega, by omega, by omega, by omega, by omega, by omega, by omega, by rw [show (((k + 1 : Nat) : Int)) = (k : Int) + 1 by omega]; exact HN.out, hb6, hx6, hs6⟩
              case measure => simp [intOf]; omega
            · have da : decide (bg ≤ (k : Int)) = false := decide_eq_false hi1
              clear hin
              go_wp2_with fail
              refine (take_g b B P 5 N W T (5 + k) 1 (k / P) t' v _ hb ho (by omega) (by omega) (by omega) HK.out HT.out HV.out).mono ?_
              rintro r w6 ⟨rfl, hb6, ho6⟩
              have hx6 := ho6.blk hx hbn
              have hs6 := below_only hs ho6 hbB (Nat.le_refl _)
              go_wp2
              go_roundw
              case rel => exact ⟨k + 1, S, 5 + k, k / P, t' + v, by omega, by go_num, rfl, by omega, by omega, by omega, by omega, by omega, by omega, by omega, by rw [show (((k + 1 : Nat) : Int)) = (k : Int) + 1 by omega]; exact HN.out, hb6, hx6, hs6⟩
              case measure => simp [intOf]; omega
        · obtain ⟨sb, off, rfl, hsb, hcell⟩ := rd (by omega)
          have hkn : k % n < n := Nat.mod_lt _ (by omega)
          have hy : wr.cell? ⟨sb, off + k % n, none⟩ = some (.bool (f (k % n))) := (hs.cell (p := ⟨sb, off + k % n, none⟩) hsb).trans (hcell _ hkn)
          have hnp : 0 < n := by omega
          clear hcell hn0
          by_cases hfk : f (k % n) = true
          · rw [hfk] at hy
            by_cases hin : bg ≤ (k : Int) ∧ (k : Int) < bg + sp
            · have da : decide (bg ≤ (k : Int)) = true := decide_eq_true hin.1
              have db : decide ((k : Int) < bg + sp) = true := decide_eq_true hin.2
              have HN := Lib.hid (show K2 B P bg sp ((k : Int) + 1) (S + v) (k / P) (t' + v) from HT.out ▸ hK.inn h (by omega) hin.1 hin.2 hW t0 t1 v0 v1)
              clear hin
              go_wp2_with fail
              refine (take_g b B P 5 N W T (5 + k) 1 (k / P) t' v _ hb ho (by omega) (by omega) (by omega) HK.out HT.out HV.out).mono ?_
              rintro r w6 ⟨rfl, hb6, ho6⟩
              have hx6 := ho6.blk hx hbn
              have hs6 := below_only hs ho6 hbB (Nat.le_refl _)
              go_wp2
              go_roundw
              case rel => exact ⟨k + 1, S + v, 5 + k, k / P, t' + v, by omega, by go_num, rfl, by omega, by omega, by omega, by omega, by omega, by omega, by omega, by rw [show (((k + 1 : Nat) : Int)) = (k : Int) + 1 by omega]; exact HN.out, hb6, hx6, hs6⟩
              case measure => simp [intOf]; omega
            · have HN := Lib.hid (show K2 B P bg sp ((k : Int) + 1) S (k / P) (t' + v) from hK.out h g0 q0 s0 (by omega) t1)
              by_cases hi1 : bg ≤ (k : Int)
              · have da : decide (bg ≤ (k : Int)) = true := decide_eq_true hi1
                have db : decide ((k : Int) < bg + sp) = false := decide_eq_false (by omega)
                clear hin
                go_wp2_with fail
                refine (take_g b B P 5 N W T (5 + k) 1 (k / P) t' v _ hb ho (by omega) (by omega) (by omega) HK.out HT.out HV.out).mono ?_
                rintro r w6 ⟨rfl, hb6, ho6⟩
                have hx6 := ho6.blk hx hbn
                have hs6 := below_only hs ho6 hbB (Nat.le_refl _)
                go_wp2
                go_roundw
                case rel => exact ⟨k + 1, S, 5 + k, k / P, t' + v, by omega, by go_num, rfl, by omega, by omega, by omega, by omega, by omega, by omega, by omega, by rw [show (((k + 1 : Nat) : Int)) = (k : Int) + 1 by omega]; exact HN.out, hb6, hx6, hs6⟩
                case measure => simp [intOf]; omega
              · have da : decide (bg ≤ (k : Int)) = false := decide_eq_false hi1
                clear hin
                go_wp2_with fail
                refine (take_g b B P 5 N W T (5 + k) 1 (k / P) t' v _ hb ho (by omega) (by omega) (by omega) HK.out HT.out HV.out).mono ?_
                rintro r w6 ⟨rfl, hb6, ho6⟩
                have hx6 := ho6.blk hx hbn
                have hs6 := below_only hs ho6 hbB (Nat.le_refl _)
                go_wp2
                go_roundw
                case rel => exact ⟨k + 1, S, 5 + k, k / P, t' + v, by omega, by go_num, rfl, by omega, by omega, by omega, by omega, by omega, by omega, by omega, by rw [show (((k + 1 : Nat) : Int)) = (k : Int) + 1 by omega]; exact HN.out, hb6, hx6, hs6⟩
                case measure => simp [intOf]; omega
          · have hfk : f (k % n) = false := by simpa using hfk
            rw [hfk] at hy
            go_wp2
            go_roundw
            case rel => exact ⟨k + 1, S, N, W, T, by omega, by go_num, rfl, by omega, by omega, by omega, by omega, by omega, by omega, by omega, by rw [show (((k + 1 : Nat) : Int)) = (k : Int) + 1 by omega]; exact HKs.out, hb, hx, hs⟩
            case measure => simp [intOf]; omega
      · have hfin := hK.fin h g0 q0 t1
        have dm : decide (S ≤ mst B P sp) = true := decide_eq_true hfin
        obtain ⟨c4, e4⟩ := hx.two
        clear hK
        go_wp2_with fail
        refine (most_any B P sp _ h (by omega) (by omega)).mono ?_
        rintro r w7 ⟨rfl, hw7⟩
        go_wp2_with fail
        go_ret
        exact ⟨rfl, below_then hs hw7⟩
  · go_enter Try.func4, Try.ntmps4
    go_wp2_with fail
    refine (awake_any _).mono ?_
    rintro r w1 ⟨rfl, hw1⟩
    obtain ⟨hx1, hy1, hs1⟩ := boxed2 hw1
    obtain ⟨c1, e1⟩ := hx1.two
    obtain ⟨c0, e0⟩ := hy1.two
    go_wp2_with fail
    have hwc : IntKind.u64.wrap c = c := IntWalk.u64_in c ⟨by omega, by omega⟩
    go_cut [32] (fun s wx => s = .bool false ∧ Blk wx w.heap.size 24 #[.int .u64 B, .int .u64 P] ∧ Below w.heap.size w wx)
    case first =>
      go_region_with (first | (go_at_call 19; refine (most_none B P c _ (Or.inl h)).mono ?_; rintro r w2 ⟨rfl, hw2⟩; have hx2 : Blk w2 w.heap.size 24 #[.int .u64 B, .int .u64 P] := Blk.stay (by exact hx1) hw2; obtain ⟨c2, e2⟩ := hx2.two; have hs2 : Below w.heap.size w w2 := below_then (by first | exact hs1 | exact hs1.drew | exact hs1.drew.drew) hw2; clear hw2) | (go_at_call 20; refine (rmost_none B P c _ (Or.inl h)).mono ?_; rintro r w3 ⟨rfl, hw3⟩; have hx3 : Blk w3 w.heap.size 24 #[.int .u64 B, .int .u64 P] := Blk.stay (by exact hx2) hw3; have hs3 : Below w.heap.size w w3 := below_then (by first | exact hs2 | exact hs2.drew | exact hs2.drew.drew) hw3; clear hw3))
      all_goals (go_wp2_with fail; go_meet; exact ⟨by simp, hx3, by first | exact hs3 | exact hs3.drew | exact hs3.drew.drew | exact hs3.drew.drew.drew⟩)
    case rest =>
    clear hx1 hy1 hs1 c0 e0 c1 e1 hwc hw1
    obtain ⟨rfl, hx3, hs3⟩ := hcut
    obtain ⟨c3, e3⟩ := hx3.two
    go_wp2_with fail
    refine (new_arg B P 5 _ h).mono ?_
    rintro r w4 ⟨rfl, hw4⟩
    have hx4 := hx3.stay hw4
    obtain ⟨c4, e4⟩ := hx4.two
    have hs4 := below_then hs3 hw4
    go_wp2_with fail
    refine (rsmay_no B P _ h).mono ?_
    rintro r w5 ⟨rfl, hw5⟩
    go_wp2_with fail
    go_ret
    exact ⟨rfl, below_then hs4 hw5⟩

set_option maxRecDepth 100000 in
theorem lifted (os : Os) (started : os.Started) (H : Type) (enc : TypeId × Value → H) :
    ReturnsInHanded {} Try.checked os 4 .any (Rows.shareMostSpec.pre6 enc Try.prog Try.f4 Rows.shareMostRow.domain false) (Rows.shareMostSpec.post enc Try.prog Try.f4 false true false false) := by
  refine law_lifted (C := Try.checked) (tb := 4) own started (by kernel_rfl) Try.func4
    (ChangeSpec.witness6 (enc := enc) (C := Try.checked) false ⟨#[], #[.agg #[.int .u64 0, .int .u64 0], .slice none 0 0, .agg #[.int .u16 0, .int .u16 0]], []⟩ 8 (by kernel_rfl) (by kernel_rfl) (by kernel_rfl) (by kernel_rfl)) laid (by kernel_rfl) (by kernel_rfl) Try.underlying4 rfl ?_
  intro W base args ds ps hval0 hA0 hlt
  have hval : ∀ (j : Nat) t v, Try.f4.params[j]? = some t → args[j]? = some v → Value.okWide Try.prog W .any base t v := hval0
  have hA : DataW.TrodAll enc Try.prog W 0 (fun _ => true) true Try.f4.params.toList args.toList ds ps := hA0
  clear hA0 hval0
  rw [Try.params4] at hA hval
  obtain ⟨v0, vs0, d0, ds0, p0, q0, hargs, rfl, rfl, h0, r0⟩ := trodAll_cons hA
  obtain ⟨v1, vs1, d1, ds1, p1, q1, rfl, rfl, rfl, h1, r1⟩ := trodAll_cons r0
  obtain ⟨v2, vs2, d2, ds2, p2, q2, rfl, rfl, rfl, h2, r2⟩ := trodAll_cons r1
  obtain ⟨rfl, rfl, rfl⟩ := trodAll_nil r2
  obtain rfl : args = #[v0, v1, v2] := by cases args; simp_all
  obtain ⟨cs0, rfl, sz0, ok0⟩ := open_flat (ts := [22, 22]) (Or.inl ⟨_, Try.underlying24⟩) (by kernel_rfl) (by kernel_rfl) (hval 0 24 v0 rfl rfl)
  obtain ⟨c0_0, c0_1, rfl⟩ := size2 sz0
  obtain ⟨a0_0, rfl, w0_0⟩ := cell_int Try.underlying22 (ok0 0 _ _ rfl rfl)
  obtain ⟨a0_1, rfl, w0_1⟩ := cell_int Try.underlying22 (ok0 1 _ _ rfl rfl)
  obtain ⟨A1, n1, cap1, f1, rfl, le1, mx1, rd1⟩ := open_slice_bools Try.underlying40 Try.underlying4 (by kernel_rfl) (hval 1 40 v1 rfl rfl) h1
  obtain ⟨cs2, rfl, sz2, ok2⟩ := open_flat (ts := [41, 41]) (Or.inr ⟨_, _, Try.underlying42⟩) (by kernel_rfl) (by kernel_rfl) (hval 2 42 v2 rfl rfl)
  obtain ⟨c2_0, c2_1, rfl⟩ := size2 sz2
  obtain ⟨a2_0, rfl, w2_0⟩ := cell_int Try.underlying41 (ok2 0 _ _ rfl rfl)
  obtain ⟨a2_1, rfl, w2_1⟩ := cell_int Try.underlying41 (ok2 1 _ _ rfl rfl)
  refine ⟨⟨rfl, rfl, rfl⟩, ?_⟩
  have b0 := bounds_u64 w0_0
  have b1 := bounds_u64 w0_1
  have b2 := bounds_u16 w2_0
  have b3 := bounds_u16 w2_1
  exact walk a0_0 a0_1 a2_0 a2_1 A1 n1 cap1 f1 W b0 b1 b2 b3 (by omega) rd1

theorem over : Rows.shareMostRow.holds Try.pinned (OpenSpec.ofChange Rows.shareMostSpec) :=
  OpenClaim.holds_of_wide 4 Try.f4 rfl rfl rfl rfl rfl rfl rfl ⟨rfl, rfl, rfl, rfl, rfl⟩ rfl rfl rfl rfl rfl (by kernel_rfl) Try.func4 (by kernel_rfl)
    (of_decide_eq_true (by kernel_rfl)) (by unfold Func.isWrapper; first | (rw [if_pos (by decide +kernel)]; kernel_rfl) | (rw [if_neg (by decide +kernel)]; exact ⟨rfl, rfl⟩))
    (fun os started H enc _ => lifted os started H enc)
theorem proved : Rows.ShareMostSaid := over
#print axioms proved
end Go.Proofs.Ytlmfcdfodlcjaaa.shareMost
