/-
  For every count, hold time and slice of bytes CoalOnce answers true, and changes nothing: each raise is fired once, at most hold ticks behind it. No condition.
-/
import Derived.Test.YtfidjjeignljjaaRows
import Derived.Test.YtfidjjeignljjaaFr
import Derived.Test.YtfidjjeignljjaaCoalL
import Derived.Test.YtfidjjeignljjaaLis
import Derived.LoopTactic
namespace Go.Proofs.Ytfidjjeignljjaa.coalOnce
open Go.ChangeShapes Go.WideShapes Go.ChangeAt Go.RowKit
set_option linter.unusedVariables false
theorem own : ownKnob Try.prog.godebug = none := by kernel_rfl
theorem laid : laidOutB Try.prog = true := by kernel_rfl
set_option maxRecDepth 100000
set_option maxHeartbeats 1000000
/-- Ahead of time t: those that wait, the first since F. -/
structure W0 (C H t K F : Int) (ws : List Int) : Prop where
  len : (ws.length : Int) = K
  kc : K < C
  new : ∀ k : Nat, k < ws.length → F ≤ ws.getD k 0 ∧ ws.getD k 0 ≤ t
  fst : 1 ≤ K → ws.getD 0 0 = F ∧ t ≤ F + H
  all : ∀ k : Nat, k < ws.length → 0 ≤ ws.getD k 0 ∧ ws.getD k 0 ≤ t
/-- Within time t: n of those that wait were fired. -/
structure WW (C H t : Int) (n : Nat) (K F : Int) (ws : List Int) : Prop where
  len : (ws.length : Int) = n + K
  k0 : 0 ≤ K
  kc : K < C
  old : ∀ k : Nat, k < n → t - ws.getD k 0 ≤ H
  new : ∀ k : Nat, n ≤ k → k < ws.length → F ≤ ws.getD k 0 ∧ ws.getD k 0 ≤ t
  fst : 1 ≤ K → ws.getD n 0 = F ∧ t < F + H
  all : ∀ k : Nat, k < ws.length → 0 ≤ ws.getD k 0 ∧ ws.getD k 0 ≤ t
theorem W0.due {C H t K F : Int} {ws : List Int} (h : W0 C H t K F ws) (hC : 1 ≤ C) (hK : 1 ≤ K) (hd : F + H ≤ t) : WW C H t ws.length 0 F ws :=
  ⟨by omega, by omega, by omega, fun k hk => by have := h.new k hk; have := h.fst hK; omega, fun k h1 h2 => by omega, fun h1 => by omega, h.all⟩
theorem W0.not {C H t K F : Int} {ws : List Int} (h : W0 C H t K F ws) (hd : K = 0 ∨ t < F + H) : WW C H t 0 K F ws :=
  ⟨by have := h.len; omega, by have := h.len; omega, h.kc, fun k hk => by omega, fun k _ h2 => h.new k h2, fun h1 => ⟨(h.fst h1).1, by omega⟩, h.all⟩
theorem getD_snoc (ws : List Int) (x : Int) (k : Nat) : (ws ++ [x]).getD k 0 = if k < ws.length then ws.getD k 0 else if k = ws.length then x else 0 := by
  simp only [List.getD]
  by_cases h1 : k < ws.length
  · rw [if_pos h1, List.getElem?_append_left h1]
  · rw [if_neg h1, List.getElem?_append_right (by omega)]
    by_cases h2 : k = ws.length
    · subst h2; simp
    · rw [if_neg h2, List.getElem?_eq_none (by simp; omega)]; rfl
theorem all_snoc {t : Int} {ws : List Int} (ht : 0 ≤ t) (h : ∀ k : Nat, k < ws.length → 0 ≤ ws.getD k 0 ∧ ws.getD k 0 ≤ t) : ∀ k : Nat, k < (ws ++ [t]).length → 0 ≤ (ws ++ [t]).getD k 0 ∧ (ws ++ [t]).getD k 0 ≤ t := fun k hk => by
  by_cases h3 : k < ws.length
  · rw [getD_snoc, if_pos h3]; exact h k h3
  · rw [getD_snoc, if_neg h3, if_pos (by simp at hk; omega)]; omega
theorem WW.fires {C H t K F : Int} {n : Nat} {ws : List Int} (h : WW C H t n K F ws) (ht : 0 ≤ t) (hC : 1 ≤ C) (hH : 0 ≤ H) : WW C H t (ws.length + 1) 0 (rF K F t) (ws ++ [t]) := by
  refine ⟨by simp, by omega, by omega, fun k hk => ?_, fun k h1 h2 => by simp at h2; omega, fun h1 => by omega, all_snoc ht h.all⟩
  rw [getD_snoc]
  split
  · rename_i hk2
    by_cases hkn : k < n
    · exact h.old k hkn
    · have h1 := h.new k (by omega) hk2
      have h2 := h.len
      have h3 := h.fst (by omega)
      omega
  · rw [if_pos (by omega)]; omega
theorem WW.keeps {C H t K F : Int} {n : Nat} {ws : List Int} (h : WW C H t n K F ws) (ht : 0 ≤ t) (hc : K + 1 < C) (hH : 1 ≤ H) : WW C H t n (K + 1) (rF K F t) (ws ++ [t]) := by
  have hl := h.len
  have hk0 := h.k0
  have hold : ∀ k : Nat, k < n → t - (ws ++ [t]).getD k 0 ≤ H := fun k hk => by rw [getD_snoc, if_pos (by omega)]; exact h.old k hk
  by_cases e : K = 0
  · have er : rF K F t = t := by unfold rF; rw [if_pos e]
    rw [er]
    refine ⟨by simp; omega, by omega, hc, hold, fun k h1 h2 => ?_, fun _ => ?_, all_snoc ht h.all⟩
    · have h3 : k = ws.length := by simp at h2; omega
      rw [getD_snoc, if_neg (by omega), if_pos h3]; omega
    · rw [getD_snoc, if_neg (by omega), if_pos (by omega)]; omega
  · have er : rF K F t = F := by unfold rF; rw [if_neg e]
    rw [er]
    have hf := h.fst (by omega)
    have h0 := h.new n (Nat.le_refl _) (by omega)
    refine ⟨by simp; omega, by omega, hc, hold, fun k h1 h2 => ?_, fun _ => ?_, all_snoc ht h.all⟩
    · by_cases h3 : k < ws.length
      · rw [getD_snoc, if_pos h3]; exact h.new k h1 h3
      · rw [getD_snoc, if_neg h3, if_pos (by simp at h2; omega)]; omega
    · rw [getD_snoc, if_pos (by omega)]; exact hf
theorem WW.next {C H t K F : Int} {n : Nat} {ws : List Int} (h : WW C H t n K F ws) : W0 C H (t + 1) K F (ws.drop n) := by
  have hl := h.len
  have hk0 := h.k0
  have e : ∀ k, (ws.drop n).getD k 0 = ws.getD (n + k) 0 := fun k => by simp [List.getD, List.getElem?_drop]
  refine ⟨by simp; omega, h.kc, fun k hk => ?_, fun h1 => ?_, fun k hk => ?_⟩
  · rw [e]; have := h.new (n + k) (by omega) (by simp at hk; omega); omega
  · rw [e]; have := h.fst h1; rw [Nat.add_zero]; omega
  · rw [e]; have := h.all (n + k) (by simp at hk; omega); omega
theorem rR_yes {C H K : Int} (h : C ≤ K + 1 ∨ H = 0) : rR C H K = K + 1 := by unfold rR; rw [if_pos h]
theorem rK_yes {C H K : Int} (h : C ≤ K + 1 ∨ H = 0) : rK C H K = 0 := by unfold rK; rw [if_pos h]
theorem rR_no {C H K : Int} (h : ¬ (C ≤ K + 1 ∨ H = 0)) : rR C H K = 0 := by unfold rR; rw [if_neg h]
theorem rK_no {C H K : Int} (h : ¬ (C ≤ K + 1 ∨ H = 0)) : rK C H K = K + 1 := by unfold rK; rw [if_neg h]
abbrev vs (ws : List Int) : List Value := ws.map (Value.int .i64)
theorem vs_at {ws : List Int} {k : Nat} (h : k < ws.length) : (vs ws)[k]? = some (.int .i64 (ws.getD k 0)) := by simp [List.getD, List.getElem?_eq_getElem h]
theorem vs_snoc (ws : List Int) (t : Int) : vs ws ++ [.int .i64 t] = vs (ws ++ [t]) := by simp
theorem vs_one (ws : List Int) : ∀ u ∈ vs ws, u.oneCell' = true := fun u hu => by obtain ⟨x, _, rfl⟩ := List.mem_map.1 hu; rfl
theorem Ytfidjjeignljjaai : (Try.prog.info? 3).map (fun i => (i.zero, i.size, i.bytes)) = some (some (.int .i64 0), 1, 8) := by kernel_rfl
theorem walk (a b : Int) (B : Option Addr) (n cap : Nat) (f : Nat → Int) (w : World) (ba : 0 ≤ a ∧ a ≤ 255) (bb : 0 ≤ b ∧ b ≤ 255) (hm : n ≤ maxLen) (rd : Rd w B n (fun i => .int .u8 (f i))) (hf : ∀ i, 0 ≤ f i ∧ f i ≤ 255) :
    Calls Try.prog 4 #[.int .u8 a, .int .u8 b, .slice B n cap] w fun r w' => r = .returned (.bool true) ∧ Below w.heap.size w w' := by
  unfold maxLen at hm
  have g0 : 0 ≤ a % 20 := Int.emod_nonneg _ (by omega)
  have g1 : a % 20 < 20 := Int.emod_lt_of_pos _ (by omega)
  have q0 : 0 ≤ b % 40 := Int.emod_nonneg _ (by omega)
  have q1 : b % 40 < 40 := Int.emod_lt_of_pos _ (by omega)
  obtain ⟨C, hC⟩ : ∃ C, 1 + a % 20 = C := ⟨_, rfl⟩
  obtain ⟨H, hH⟩ : ∃ H, b % 40 = H := ⟨_, rfl⟩
  have bC : 1 ≤ C ∧ C ≤ 20 := by omega
  have bH : 0 ≤ H ∧ H < 40 := by omega
  by_cases hn0 : n = 0
  · subst hn0
    go_enter Try.func4, Try.ntmps4
    go_wp2_with fail
    refine (looks (awake_any _) (St.begin w)).mono ?_
    rintro r w1 ⟨rfl, s1⟩
    go_wp2_with fail
    refine (new_ok C H _ (by omega)).mono ?_
    rintro r w2 ⟨rfl, hb, hz, hn⟩
    go_wp2
    go_ret
    exact ⟨rfl, (s1.stay hn).below⟩
  · have dn2 : ((n : Int) == 0) = false := beq_eq_false_iff_ne.2 (by omega)
    have dn3 : (n == 0) = false := beq_eq_false_iff_ne.2 hn0
    obtain ⟨i0, hi, hz0, hz1, hz2⟩ := info_parts Ytfidjjeignljjaai
    go_enter Try.func4, Try.ntmps4
    go_wp2_with fail
    refine (looks (awake_any _) (St.begin w)).mono ?_
    rintro r w1 ⟨rfl, s1⟩
    go_wp2_with fail
    refine (new_ok C H _ (by omega)).mono ?_
    rintro r w2 ⟨rfl, hb, hz, hn⟩
    have s2 : St w None w2 [_] := s1.more hn (Star.one (BlkR.ok w1.heap.size 49 #[.int .i64 C, .int .u64 H, .int .u64 0, .int .i64 0, .int .u64 0]) ⟨hb, fun b => Iff.rfl⟩) (fun b hb => by have hb : b = w1.heap.size := hb; omega)
    have s3 : St w None _ [_, _] := s2.lis_nil 3 1
    generalize w1.heap.size = gk at *
    clear hb hz hn s1 s2
    go_wp2_with fail
    clear hC hH g0 g1 q0 q1
    have O0 : W0 C H 0 0 0 [] := ⟨rfl, by omega, fun k hk => by simp at hk, fun h => by omega, fun k hk => by simp at hk⟩
    go_loopw [11, 12] (fun v x wr => ∃ (t : Nat) (ws : List Int) (A : Option Addr) (cap : Nat) (N K F : Int), v = .slice A ws.length cap ∧ t ≤ 300 ∧ x = .int .i64 t ∧ 0 ≤ N ∧ N ≤ t ∧ 0 ≤ F ∧ F ≤ t ∧ W0 C H t K F ws ∧ St w None wr [BlkR gk 49 #[.int .i64 C, .int .u64 H, .int .u64 N, .int .i64 K, .int .u64 F], LisR 3 1 (.slice A ws.length cap) ws.length (vs ws)]) (fun _ x _ => 300 - (intOf x).toNat)
    case atStart => exact ⟨0, [], none, 0, 0, 0, 0, rfl, by omega, rfl, by omega, by omega, by omega, by omega, O0, s3⟩
    case round =>
      clear s3 O0
      obtain ⟨t, ws, A, cap1, N, K, F, rfl, ht, rfl, n0, n1, f0, f1, ho, sr⟩ := hrel
      by_cases hlt : t < 300
      · have dt : decide ((t : Int) < 300) = true := decide_eq_true (by omega)
        have hlen := ho.len
        have hkc := ho.kc
        have hOK : KOK C H N K F := ⟨by omega, by omega, by omega, by omega, by omega, by omega, by omega, by omega, by omega⟩
        have fk := hf (t % n)
        have m0 : 0 ≤ f (t % n) % 4 := Int.emod_nonneg _ (by omega)
        have m1 : f (t % n) % 4 < 4 := Int.emod_lt_of_pos _ (by omega)
        -- the step's beginning: who is due is fired
        have key : ∃ (k0 : Nat) (K' : Int), WW C H t k0 K' F ws ∧ Calls Try.prog 13 #[.pointer (some ⟨gk, 0, none⟩), .int .u64 t] wr fun e w' => e = .returned (.tuple #[.int .i64 (k0 : Int), .int .i64 0]) ∧ Gk w' gk C H t K' F ∧ Only gk wr w' := by
          by_cases hd : 1 ≤ K ∧ F + H ≤ t
          · refine ⟨ws.length, 0, ho.due bC.1 hd.1 hd.2, ?_⟩
            rw [hlen]
            exact go_due gk C H N K F t wr (sr.blk 0 rfl) hOK n1 (by omega) hd.1 hd.2
          · exact ⟨0, K, ho.not (by omega), go_not gk C H N K F t wr (sr.blk 0 rfl) hOK n1 (by omega) (by omega)⟩
        obtain ⟨k0, K', hW, hgo⟩ := key
        have HGO := Lib.hid hgo
        have hWl := hW.len
        have hWk := hW.k0
        clear hgo ho
        obtain ⟨wo, rfl⟩ : ∃ wo : World, wo = wr := ⟨_, rfl⟩
        go_wp2_with fail
        refine HGO.out.mono ?_
        rintro e w4 ⟨rfl, hb4, ho4⟩
        have s4 : St w None w4 [_, _] := sr.blk_turn 0 rfl hb4 ho4
        clear hb4 ho4 sr HGO
        go_wp2_with fail
        go_loopw [11, 13, 15, 16, 17] (fun v nn y _ _ wr => ∃ (i : Nat) (ws : List Int) (A : Option Addr) (cap k1 : Nat) (K F : Int), v = .slice A ws.length cap ∧ (i : Int) ≤ f (t % n) % 4 ∧ y = .int .i64 i ∧ nn = .int .i64 k1 ∧ ws.length ≤ 20 + i ∧ 0 ≤ F ∧ F ≤ t ∧ WW C H t k1 K F ws ∧ St w None wr [BlkR gk 49 #[.int .i64 C, .int .u64 H, .int .u64 t, .int .i64 K, .int .u64 F], LisR 3 1 (.slice A ws.length cap) ws.length (vs ws)]) (fun _ _ y _ _ _ => 5 - (intOf y).toNat)
        case atStart => exact ⟨0, ws, A, cap1, k0, K', F, rfl, by omega, rfl, rfl, by omega, by omega, by omega, hW, s4⟩
        case round =>
          clear s4 hW hWl hWk hlen hkc hOK n0 n1 f0 f1
          obtain ⟨i, ws, A, cap2, k1, K, F, rfl, hi4, rfl, rfl, hlen, f0, f1, hw, sr⟩ := hrel
          obtain ⟨sb, off, rfl, hsb, hcell⟩ := rd (by omega)
          have hy : wr.cell? ⟨sb, off + t % n, none⟩ = some (.int .u8 (f (t % n))) := (sr.cell (p := ⟨sb, off + t % n, none⟩) hsb id).trans (hcell _ (Nat.mod_lt _ (by omega)))
          have hkn : t % n < n := Nat.mod_lt _ (by omega)
          clear hcell
          have hl2 := hw.len
          have hk0 := hw.k0
          have hkc := hw.kc
          by_cases hlt2 : (i : Int) < f (t % n) % 4
          · have hOK : KOK C H t K F := ⟨by omega, by omega, by omega, by omega, by omega, by omega, by omega, by omega, by omega⟩
            have sa := sr.alloc (.cells #[.int .i64 t] 3)
            have hlis := sa.lis 1 rfl
            have hrds := rds_box wr 3 (.int .i64 t)
            have hnd : K = 0 ∨ (t : Int) < F + H := by
              by_cases e : K = 0
              · exact Or.inl e
              · exact Or.inr (hw.fst (by omega)).2
            go_wp2_with (at_builtin; refine wpList_lis rfl _ _ 43 rfl 3 i0 (.int .i64 0) 1 8 Try.underlying43 hi hz0 hz1 hz2 rfl (by decide) _ _ _ rfl hlis (some ⟨wr.heap.size, 0, none⟩) 1 1 [.int .i64 t] rfl hrds (by simp [Value.oneCell']) (by unfold maxLen; omega) (by omega) ?_; intro A3 cap3 w5 hl5 hg5 hat5)
            have s5' : St w None w5 [_, _] := sa.lis_put 1 rfl hl5 hg5 hat5
            rw [vs_snoc] at s5'
            have s5 : St w None w5 [BlkR gk 49 #[.int .i64 C, .int .u64 H, .int .u64 t, .int .i64 K, .int .u64 F], LisR 3 1 (.slice A3 (ws ++ [(t : Int)]).length cap3) (ws ++ [(t : Int)]).length (vs (ws ++ [(t : Int)]))] := by simpa using s5'
            clear s5' hl5 hg5 hat5 hlis hrds sa sr
            by_cases hfi : C ≤ K + 1 ∨ H = 0
            · have HW := Lib.hid (hw.fires (by omega) bC.1 bH.1)
              have HR := Lib.hid (raise_not gk C H t K F t w5 (s5.blk 0 rfl) hOK (Int.le_refl _) (by omega) (by omega) hnd)
              rw [rR_yes hfi, rK_yes hfi] at HR
              have hrf : 0 ≤ rF K F t ∧ rF K F t ≤ t := by unfold rF; split <;> omega
              clear hw hfi hnd hOK
              refine HR.out.mono ?_
              rintro e w6 ⟨rfl, hb6, ho6⟩
              have s6 : St w None w6 [_, _] := s5.blk_turn 0 rfl hb6 ho6
              clear HR s5 hb6 ho6
              generalize rF K F t = F' at *
              have e1 : ((k1 : Int) + (K + 1)) = ((ws.length + 1 : Nat) : Int) := by omega
              have HE := Lib.hid e1
              clear e1
              go_wp2
              go_roundw
              case rel => exact ⟨i + 1, ws ++ [(t : Int)], A3, cap3, ws.length + 1, 0, F', by simp, by omega, by go_num, by rw [HE.out], by simp; omega, by omega, by omega, HW.out, s6⟩
              case measure => simp [intOf]; omega
            · have HW := Lib.hid (hw.keeps (by omega) (by omega) (by omega))
              have HR := Lib.hid (raise_not gk C H t K F t w5 (s5.blk 0 rfl) hOK (Int.le_refl _) (by omega) (by omega) hnd)
              rw [rR_no hfi, rK_no hfi] at HR
              have hrf : 0 ≤ rF K F t ∧ rF K F t ≤ t := by unfold rF; split <;> omega
              clear hw hfi hnd hOK
              refine HR.out.mono ?_
              rintro e w6 ⟨rfl, hb6, ho6⟩
              have s6 : St w None w6 [_, _] := s5.blk_turn 0 rfl hb6 ho6
              clear HR s5 hb6 ho6
              generalize rF K F t = F' at *
              go_wp2
              go_roundw
              case rel => exact ⟨i + 1, ws ++ [(t : Int)], A3, cap3, k1, K + 1, F', by simp, by omega, by go_num, by simp, by simp; omega, by omega, by omega, HW.out, s6⟩
              case measure => simp [intOf]; omega
          · -- what was fired is looked through
            have hw2 := hw.next
            have HN := Lib.hid hw2
            have HO := Lib.hid hw.old
            have dk1 : decide ((k1 : Int) < 0) = false := decide_eq_false (by omega)
            have dk2 : decide (ws.length < k1) = false := decide_eq_false (by omega)
            have dk3 : decide ((ws.length : Int) < (k1 : Int)) = false := decide_eq_false (by omega)
            have hk1l : k1 ≤ ws.length := by omega
            have hKF : 1 ≤ K → ws.getD k1 0 = F ∧ (t : Int) < F + H := hw.fst
            have HKF := Lib.hid hKF
            have HKR := Lib.hid hw.new
            have HAL := Lib.hid hw.all
            clear hw hw2 hKF
            obtain ⟨wo, rfl⟩ : ∃ wo : World, wo = wr := ⟨_, rfl⟩
            go_wp2_with fail
            go_loopw [18] (fun y wr => ∃ j : Nat, j ≤ k1 ∧ y = .int .i64 j ∧ St w None wr [BlkR gk 49 #[.int .i64 C, .int .u64 H, .int .u64 t, .int .i64 K, .int .u64 F], LisR 3 1 (.slice A ws.length cap2) ws.length (vs ws)]) (fun y _ => k1 - (intOf y).toNat)
            case atStart => exact ⟨0, by omega, rfl, sr⟩
            case round =>
              clear sr
              obtain ⟨j, hj, rfl, sr⟩ := hrel
              by_cases hlt3 : j < k1
              · obtain ⟨A', cap', hv, hcap, hmx, _, hcell⟩ := sr.lis_cells 1 rfl
                injection hv with hv1 _ hv2
                subst hv1; subst hv2
                obtain ⟨g, off2, rfl, hcc⟩ := hcell.resolve_left (by omega)
                have e0 := hcc j _ (vs_at (show j < ws.length by omega))
                have hold := HO.out j hlt3
                have hall := HAL.out j (by omega)
                generalize ws.getD j 0 = y at *
                have d1 : decide (H < (t : Int) - y) = false := decide_eq_false (by omega)
                clear hcc hcell
                go_wp2
                go_roundw
                case rel => exact ⟨j + 1, by omega, by go_num, sr⟩
                case measure => simp [intOf]; omega
              · have hlis := sr.lis 1 rfl
                have hcut := hlis.cut hk1l
                obtain ⟨A', cap', hv, hcap, hmx, _, hcell⟩ := sr.lis_cells 1 rfl
                injection hv with hv1 _ hv2
                subst hv1; subst hv2
                obtain ⟨m, hmm⟩ : ∃ m, ws.length - k1 = m := ⟨_, rfl⟩
                obtain rfl : K = (m : Int) := by omega
                have hdl : (ws.drop k1).length = m := by simp; omega
                have hvd : (vs ws).drop (k1 * 1) = vs (ws.drop k1) := by rw [Nat.mul_one]; simp
                rw [hvd, Nat.mul_one, hmm] at hcut
                have s7 : ∀ v, v = Value.slice (if cap2 = k1 then A else A.map (·.add k1)) m (cap2 - k1) → St w None wr [BlkR gk 49 #[.int .i64 C, .int .u64 H, .int .u64 t, .int .i64 m, .int .u64 F], LisR 3 1 v (ws.drop k1).length (vs (ws.drop k1))] := fun v hv => by
                  subst hv
                  rw [hdl]
                  exact sr.lis_as 1 rfl hcut cut_block
                have S7 := Lib.hid s7
                have HD := Lib.hid hdl
                have HN2 := Lib.hid (show W0 C H ((t + 1 : Nat) : Int) m F (ws.drop k1) from HN.out)
                clear hlis hcut hvd s7 hdl HN HO
                have dK : decide (C ≤ (m : Int)) = false := decide_eq_false (by omega)
                by_cases hm0 : m = 0
                · subst hm0
                  by_cases hce : cap2 = k1
                  · subst hce
                    go_wp2_with fail
                    refine (has_any gk C H t _ F _ (sr.blk 0 rfl)).mono ?_
                    rintro e w7 ⟨rfl, rfl⟩
                    go_wp2_with fail
                    refine (has_any gk C H t _ F _ (sr.blk 0 rfl)).mono ?_
                    rintro e w7 ⟨rfl, rfl⟩
                    go_wp2
                    go_roundw
                    case rel => exact ⟨t + 1, ws.drop cap2, A, 0, t, 0, F, by rw [HD.out], by omega, by go_num, by omega, by omega, by omega, by omega, HN2.out, by rw [HD.out]; simpa [HD.out] using S7.out _ rfl⟩
                    case measure => simp [intOf]; omega
                  · go_wp2_with fail
                    refine (has_any gk C H t _ F _ (sr.blk 0 rfl)).mono ?_
                    rintro e w7 ⟨rfl, rfl⟩
                    go_wp2_with fail
                    refine (has_any gk C H t _ F _ (sr.blk 0 rfl)).mono ?_
                    rintro e w7 ⟨rfl, rfl⟩
                    go_wp2
                    go_roundw
                    case rel => exact ⟨t + 1, ws.drop k1, A.map (·.add k1), cap2 - k1, t, 0, F, by rw [HD.out], by omega, by go_num, by omega, by omega, by omega, by omega, HN2.out, by rw [HD.out]; simpa [HD.out] using S7.out _ (by rw [if_neg hce])⟩
                    case measure => simp [intOf]; omega
                · have hce : ¬ cap2 = k1 := by omega
                  obtain ⟨g, off2, rfl, hcc⟩ := hcell.resolve_left (by omega)
                  have e0 := hcc k1 _ (vs_at (show k1 < ws.length by omega))
                  have hF := HKF.out (by omega)
                  rw [hF.1] at e0
                  have d9 : decide (H ≤ (t : Int) - F) = false := decide_eq_false (by omega)
                  have mp : 0 < m := by omega
                  clear hcc hcell hF
                  go_wp2_with fail
                  refine (has_any gk C H t _ F _ (sr.blk 0 rfl)).mono ?_
                  rintro e w7 ⟨rfl, rfl⟩
                  go_wp2_with fail
                  refine (has_any gk C H t _ F _ (sr.blk 0 rfl)).mono ?_
                  rintro e w7 ⟨rfl, rfl⟩
                  go_wp2
                  go_roundw
                  case rel => exact ⟨t + 1, ws.drop k1, some ⟨g, off2 + k1, none⟩, cap2 - k1, t, m, F, by rw [HD.out], by omega, by go_num, by omega, by omega, by omega, by omega, HN2.out, by rw [HD.out]; simpa [HD.out] using S7.out _ (by rw [if_neg hce]; simp [Go.WideShapes.add_plain])⟩
                  case measure => simp [intOf]; omega
      · go_wp2
        go_ret
        exact ⟨rfl, sr.below⟩

set_option maxRecDepth 100000 in
theorem lifted (os : Os) (started : os.Started) (H : Type) (enc : TypeId × Value → H) :
    ReturnsInHanded {} Try.checked os 4 .any (Rows.coalOnceSpec.pre6 enc Try.prog Try.f4 Rows.coalOnceRow.domain false) (Rows.coalOnceSpec.post enc Try.prog Try.f4 false true false false) := by
  refine law_lifted (C := Try.checked) (tb := 4) own started (by kernel_rfl) Try.func4
    (ChangeSpec.witness6 (enc := enc) (C := Try.checked) false ⟨#[], #[.int .u8 0, .int .u8 0, .slice none 0 0], []⟩ 8 (by kernel_rfl) (by kernel_rfl) (by kernel_rfl) (by kernel_rfl)) laid (by kernel_rfl) (by kernel_rfl) Try.underlying4 rfl ?_
  intro W base args ds ps hval0 hA0 hlt
  have hval : ∀ (j : Nat) t v, Try.f4.params[j]? = some t → args[j]? = some v → Value.okWide Try.prog W .any base t v := hval0
  have hA : DataW.TrodAll enc Try.prog W 0 (fun _ => true) true Try.f4.params.toList args.toList ds ps := hA0
  clear hA0 hval0
  rw [Try.params4] at hA hval
  obtain ⟨v0, vs0, d0, ds0, p0, q0, hargs, rfl, rfl, h0, r0⟩ := trodAll_cons hA
  obtain ⟨v1, vs1, d1, ds1, p1, q1, rfl, rfl, rfl, h1, r1⟩ := trodAll_cons r0
  obtain ⟨v2, vs2, d2, ds2, p2, q2, rfl, rfl, rfl, h2, r2⟩ := trodAll_cons r1
  obtain ⟨rfl, rfl, rfl⟩ := trodAll_nil r2
  obtain rfl : args = #[v0, v1, v2] := by cases args; simp_all
  obtain ⟨a0, rfl, rfl, rfl, w0⟩ := open_int Try.underlying5 (hval 0 5 v0 rfl rfl) h0
  obtain ⟨a1, rfl, rfl, rfl, w1⟩ := open_int Try.underlying5 (hval 1 5 v1 rfl rfl) h1
  obtain ⟨A2, n2, cap2, f2, rfl, le2, mx2, wf2, rd2⟩ := open_slice_ints Try.underlying42 Try.underlying5 (by kernel_rfl) (hval 2 42 v2 rfl rfl) h2
  refine ⟨⟨rfl, rfl, rfl⟩, ?_⟩
  exact walk a0 a1 A2 n2 cap2 f2 W (bounds_u8 w0) (bounds_u8 w1) (by omega) rd2 (fun i => bounds_u8 (wf2 i))

theorem over : Rows.coalOnceRow.holds Try.pinned (OpenSpec.ofChange Rows.coalOnceSpec) :=
  OpenClaim.holds_of_wide 4 Try.f4 rfl rfl rfl rfl rfl rfl rfl ⟨rfl, rfl, rfl, rfl, rfl⟩ rfl rfl rfl rfl rfl (by kernel_rfl) Try.func4 (by kernel_rfl)
    (of_decide_eq_true (by kernel_rfl)) (by unfold Func.isWrapper; first | (rw [if_pos (by decide +kernel)]; kernel_rfl) | (rw [if_neg (by decide +kernel)]; exact ⟨rfl, rfl⟩))
    (fun os started H enc _ => lifted os started H enc)
theorem proved : Rows.CoalOnceSaid := over
#print axioms proved
end Go.Proofs.Ytfidjjeignljjaa.coalOnce
