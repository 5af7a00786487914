/- Layer 4: a place is opened, walked. Layer 4: the time goes on. Layer 4: a wheel by itself, as its users see it. Layer 4: timers by their numbers; those of one tick as a list. Plain theorems. Layer 4: a wheel as one thing among others; two lists of numbers that are the same. -/
import Derived.Test.YtdjhpdacglojaaaGreatWhA
import Derived.Test.YtdjhpdacglojaaaGreatSortJ
import Derived.WalkMore
import Derived.BigQuiet
import Derived.Test.YtdjhpdacglojaaaGreatMore
namespace Go.Proofs.YtdjhpdacglojaaaGreat
open Go.RowKit
section
set_option linter.unusedVariables false
set_option maxRecDepth 100000
set_option maxHeartbeats 2000000
theorem info3w {P : Program} {e : TypeId} {z : Value} {m b : Nat} (h : (P.info? e).map (fun i => (i.zero, i.size, i.bytes)) = some (some z, m, b)) : ∃ i, P.info? e = some i ∧ i.zero = some z ∧ i.size = m ∧ i.bytes = b := by
  cases hi : P.info? e with
  | none => rw [hi] at h; cases h
  | some i => rw [hi] at h; simp at h; exact ⟨i, rfl, h.1, h.2.1, h.2.2⟩
section
variable {w0 w w' : World} {S0 S : Nat → Prop} {L X : List Res} {m c bw s b n : Nat} {now at' id : Int} {mb mb' : Nat → Option Nat} {W W' T T' : Int → Option Int} {V V' : Nat → Value} {F F' : Nat → Res}
theorem open_c (H : St w0 S0 w (WL 704 c bw now mb T T X)) (ok : TOK now T) (hs : s < 704) (hex : ∃ i, (MS T now s i).isSome = true) (hf : First T now s) (hb : bgS now s < 4611686018427387904) :
    Calls Tryz.prog 160 #[.pointer (some ⟨c, 0, none⟩), .int .i64 ((s / 64 : Nat) : Int), .int .i64 ((s % 64 : Nat) : Int)] w fun e w' => ∃ A n cap o mb', e = .returned (.slice A n cap) ∧ OffP T (bgS now s) o ∧ o.length = n ∧
      St w0 S0 w' (WL 704 c bw (bgS now s) mb' (aft T (bgS now s)) (aft T (bgS now s)) (X ++ [LisR 3 1 (.slice A n cap) n (iv o)])) := by
  obtain ⟨iI, hiI, hzI, hsI, hbI⟩ := info3w YtdjhpdacglojaaaGreatiI
  obtain ⟨B, hB⟩ : ∃ B, bgS now s = B := ⟨_, rfl⟩
  have BC := Lib.hid (begin_c H ok.n0 ok.n1 hs hb)
  have OK := Lib.hid ok
  have HF := Lib.hid hf
  have HB := Lib.hid hB
  have GE := Lib.hid (show ∀ i a, T i = some a → B ≤ a from fun i a h => by rw [← hB]; exact hf.bg_le ok h)
  rw [hB] at BC hb ⊢
  have B0 : 0 ≤ B := by
    obtain ⟨k, hk⟩ := hex
    obtain ⟨v, hv⟩ := Option.isSome_iff_exists.1 hk
    obtain ⟨a, ha, hbs, -⟩ := MS_inv hv
    have := hbs.now_lt (ok.t k a ha).2.2.1
    have := ok.n0
    omega
  obtain ⟨b, hbm⟩ : ∃ b, mb s = some b := by
    cases hbm : mb s with
    | none => obtain ⟨k, hk⟩ := hex; rw [wl_empty H hs hbm k] at hk; cases hk
    | some b => exact ⟨b, rfl⟩
  have HBM := Lib.hid hbm
  have HEX := Lib.hid hex
  have HS := Lib.hid hs
  have q0 : (0 : Int) ≤ ((s / 64 : Nat) : Int) := by omega
  have q1 : ((s / 64 : Nat) : Int) < 11 := by omega
  have q2 : (0 : Int) ≤ ((s % 64 : Nat) : Int) := by omega
  have q3 : ((s % 64 : Nat) : Int) < 64 := by omega
  clear H ok hex hf hB hbm
  go_enter Tryz.func160, Tryz.ntmps160
  go_wp2_with fail
  refine BC.out.mono ?_
  rintro e w2 ⟨rfl, s2⟩
  have cs := wl_cell s2 hs
  rw [← ea, HBM.out] at cs
  have MN := Lib.hid (wl_mapn s2 hs HBM.out)
  have S2 := Lib.hid s2
  obtain ⟨M, hM⟩ : ∃ M, MS T now s = M := ⟨_, rfl⟩
  obtain ⟨r, hr⟩ : ∃ r, w2.heap.size = r := ⟨_, rfl⟩
  obtain ⟨N, hN⟩ : ∃ N, cnt M = N := ⟨_, rfl⟩
  have HM := Lib.hid hM
  have HR := Lib.hid hr
  have HN := Lib.hid hN
  rw [hM] at MN
  have MP := Lib.hid (show MapI w2 Tryz.prog 3 b N M by rw [← hN]; exact MN.out.mapi)
  clear s2 BC hM hr hN
  go_wp2_with (first
    | (at_range; refine wpList_mapI_range rfl _ 262 rfl 3 34 Tryz.underlying3 Tryz.underlying262 b N M rfl MP.out ?_; intro w3 cnt0 hit0 hg0 hsz0; rw [HR.out] at hit0)
    | fail)
  rw [HR.out]
  have S3 := Lib.hid (show ∃ left cn, St w0 S0 w3 (WG 704 c bw (wv now bw mb) T (fun j => if j = s then ItM Tryz.prog 3 b r N M left cn else OptM Tryz.prog 3 (mb j) (MS T now j)) (X ++ [LisR 3 1 (.slice none 0 0) 0 (iv [])])) ∧ ∀ i, left i = (M i).isSome from ⟨_, _, by
    have h2 := wl_s (now := now) (c := c) (bw := bw) (mb := mb) (W := T) (T := T) (X := X) HS.out
    rw [HBM.out, HM.out] at h2
    rw [← HR.out] at hit0 ⊢
    have h3 := S2.out.it_start _ h2 hit0 hg0
    have h4 : St w0 S0 w3 (WG 704 c bw (wv now bw mb) T (fun j => if j = s then ItM Tryz.prog 3 b w2.heap.size N M (fun i => (M i).isSome) cnt0 else OptM Tryz.prog 3 (mb j) (MS T now j)) X) := by
      rw [← wg_s HS.out]; exact h3
    have h5 := h4.lis_nil 3 1
    rw [wg_app] at h5
    exact h5, fun i => rfl⟩)
  clear hit0 hg0 hsz0 cs S2 MP
  go_frame
  go_loopw [8] (fun x wr => ∃ (A : Option Addr) (n cap : Nat) (l : List Int) (left : Int → Bool) (cn : Nat), x = .slice A n cap ∧ l.length = n ∧ St w0 S0 wr (WG 704 c bw (wv now bw mb) T (fun j => if j = s then ItM Tryz.prog 3 b r N M left cn else OptM Tryz.prog 3 (mb j) (MS T now j)) (X ++ [LisR 3 1 (.slice A n cap) n (iv l)])) ∧ l.Nodup ∧ (∀ i, wfI i → (i ∈ l ↔ (M i).isSome = true ∧ left i = false)) ∧ (∀ i ∈ l, 0 ≤ i ∧ i < 1000)) (fun _ wr => wr.rangeLeft b r)
  case atStart =>
    obtain ⟨left, cn, h, hl⟩ := S3.out
    exact ⟨none, 0, 0, [], left, cn, rfl, rfl, h, .nil, fun i _ => ⟨fun h => (by cases h), fun ⟨h1, h2⟩ => by rw [hl, h1] at h2; cases h2⟩, fun i h => by cases h⟩
  case round =>
  clear S3
  obtain ⟨A, n, cap, l, left, cn, rfl, hln, sr, hnd, hml, hsm⟩ := hrel
  have hit := sr.it_get _ (by rw [wg_at HS.out, if_pos rfl])
  have HIT := Lib.hid hit
  have SR := Lib.hid sr
  have HND := Lib.hid hnd
  have HML := Lib.hid hml
  have HSM := Lib.hid hsm
  have HLN := Lib.hid hln
  have hn1 : n ≤ 1000 := by rw [← hln]; exact len_small 1000 l hnd hsm
  clear sr hit hnd hml hsm hln
  go_wp2_with (first
    | (at_next; refine wpList_mapI_next rfl _ rfl 3 Tryz.underlying3 b r N M left cn rfl HIT.out ?_ ?_)
    | fail)
  · intro _ hl0
    have HL0 := Lib.hid hl0
    clear hl0
    have hlm : ∀ i, i ∈ l ↔ (M i).isSome = true := fun i => by
      constructor
      · intro h
        obtain ⟨h0, h1⟩ := HSM.out i h
        exact ((HML.out i (dom_wf h0 h1)).1 h).1
      · intro h
        obtain ⟨h0, h1⟩ := MN.out.2 i h
        have hw := dom_wf h0 h1
        exact (HML.out i hw).2 ⟨h, HL0.out i hw⟩
    have hn0 : 0 < n := by
      obtain ⟨k, hk⟩ := HEX.out
      rw [HM.out] at hk
      rw [← HLN.out]
      exact List.length_pos_of_mem ((hlm k).2 hk)
    obtain ⟨A', cap', hA, hcap, hcap2, hx, hcc⟩ := SR.out.lis_cells _ (wg_x last_at)
    injection hA with hA1 hA2 hA3
    subst hA1 hA3
    obtain ⟨g, off, rfl, -⟩ := hcc.resolve_left (by omega)
    have SORT := Lib.hid (sort_i SR.out (wg_x last_at) (by omega) hn0)
    have HLM := Lib.hid hlm
    clear hlm hx hcc
    go_wp2_with fail
    refine SORT.out.mono ?_
    rintro e w4 ⟨rfl, s4⟩
    rw [wg_xset, last_set] at s4
    obtain ⟨ls, hls⟩ : ∃ ls, (l.mergeSort fun x y => decide (x ≤ y)) = ls := ⟨_, rfl⟩
    have hperm : ls.Perm l := by rw [← hls]; exact List.mergeSort_perm l _
    have HRI := Lib.hid (show ls.Pairwise (· < ·) by rw [← hls]; exact rising_of HND.out)
    rw [hls] at s4
    have HLS := Lib.hid (show ∀ i, i ∈ ls ↔ (M i).isSome = true from fun i => hperm.mem_iff.trans (HLM.out i))
    have HLL := Lib.hid (hperm.length_eq.trans HLN.out)
    have ce := s4.arr_cell 0 rfl (show 2 + s < 706 by omega)
    have hv2 : wv now bw mb (2 + s) = .map (some b) := by
      unfold wv
      rw [if_neg (by omega), if_neg (by omega), show 2 + s - 2 = s by omega, HBM.out]
    rw [hv2, ← ea] at ce
    have fr := s4.arr_frozen 0 rfl (2 + s / 64 * 64 + s % 64)
    have ce0 : (w4.setCell ⟨c, 2 + s / 64 * 64 + s % 64, none⟩ (.map none)).cell? ⟨c, 0, none⟩ = some (.int .u64 now) := by
      rw [ea]
      exact (s4.arr_set 0 rfl (show 2 + s < 706 by omega) (.map none)).arr_cell 0 rfl (show 0 < 706 by omega) |>.trans (by rw [if_neg (by omega)]; rfl)
    have fr0 : (w4.setCell ⟨c, 2 + s / 64 * 64 + s % 64, none⟩ (.map none)).frozen? ⟨c, 0, none⟩ = false := by
      rw [ea]
      exact (s4.arr_set 0 rfl (show 2 + s < 706 by omega) (.map none)).arr_frozen 0 rfl 0
    rw [← HM.out] at s4
    have s5 := wl_open (T' := Tp T B [] ls) s4 OK.out HS.out HF.out (fun i => by
      unfold Tp
      rw [wp_nil, HM.out]
      by_cases h : i ∈ ls
      · rw [if_pos h, if_pos ((HLS.out i).1 h)]
      · rw [if_neg h, if_neg fun h2 => h ((HLS.out i).2 h2)])
    rw [HB.out, ← ea] at s5
    have s6 := s5.lis_nil 3 1
    rw [wl_app] at s6
    have S6 := Lib.hid s6
    clear s4 s5 s6 SORT SR hls hperm hv2
    go_wp2_with fail
    go_loopw [10, 50] (fun x y wr => ∃ (A2 : Option Addr) (n2 cap2 : Nat) (pre post : List Int) (mb2 : Nat → Option Nat) (jn : Nat), x = .slice A2 n2 cap2 ∧ y = .int .i64 (jn : Int) ∧ ls = pre ++ post ∧ pre.length = jn ∧ (pre.filter (fun i => decide (T i = some B))).length = n2 ∧ St w0 S0 wr (WL 704 c bw B mb2 (Wp T B pre) (Tp T B pre post) ((X ++ [LisR 3 1 (.slice (some ⟨g, off, none⟩) n cap) n (iv ls)]) ++ [LisR 3 1 (.slice A2 n2 cap2) n2 (iv (pre.filter (fun i => decide (T i = some B))))]))) (fun _ y _ => 1000 - (intOf y).toNat)
    case atStart => exact ⟨none, 0, 0, [], ls, _, 0, rfl, rfl, rfl, rfl, rfl, by rw [wp_nil]; exact S6.out⟩
    case round =>
    clear S6
    obtain ⟨A2, n2, cap2, pre, post, mb2, jn, rfl, rfl, hsp, hjn, hn2, sr2⟩ := hrel
    have j0 : (0 : Int) ≤ (jn : Int) := by omega
    have hnl := HLL.out
    rw [hsp, List.length_append, hjn] at hnl
    have hn2j : n2 ≤ jn := by rw [← hn2, ← hjn]; exact List.length_filter_le _ _
    cases post with
    | nil =>
      have hjn' : jn = n := by simpa using hnl
      have d1 : decide ((jn : Int) < (n : Int)) = false := decide_eq_false (by omega)
      have d1' : decide (jn < n) = false := decide_eq_false (by omega)
      rw [List.append_nil] at hsp
      subst hsp
      have hall : Wp T B ls = aft T B := wp_all (fun i hi => (HLS.out i).2 (by
        obtain ⟨q, hq, hp⟩ := spot_ex OK.out.n0 (OK.out.t i B hi).2.2.1 hb
        rw [← HM.out]
        by_cases e : q = s
        · rw [← e, MS_at hp hi]; rfl
        · exfalso
          have h1 := HF.out.ge hi hp
          have h2 := hp.behind (OK.out.t i B hi).2.2.1 (show s < q by omega)
          rw [HB.out] at h2
          have := lw_pos s
          omega)) GE.out
      have s7 := wl_less sr2
      rw [tp_end, hall] at s7
      have S7 := Lib.hid s7
      have HOFF := Lib.hid (show OffP T B (ls.filter (fun i => decide (T i = some B))) from OffP.one GE.out (HRI.out.filter _) fun i => by
        rw [List.mem_filter, HLS.out]
        simp only [decide_eq_true_eq]
        refine ⟨fun h => h.2, fun h => ⟨?_, h⟩⟩
        apply Classical.byContradiction
        intro hno
        have h1 : i ∉ ls := fun h2 => hno ((HLS.out i).1 h2)
        have h2 := congrFun hall i
        unfold Wp at h2
        rw [if_neg (fun h3 => h1 h3.1), h, aft_off h (Int.le_refl _)] at h2
        cases h2)
      have HN2 := Lib.hid hn2
      clear sr2 hall hn2 hnl s7
      go_wp2_with fail
      go_ret
      exact ⟨_, _, _, _, _, rfl, HOFF.out, HN2.out, S7.out⟩
    | cons id post =>
      have hjn' : jn < n := by simp at hnl; omega
      have d1 : decide ((jn : Int) < (n : Int)) = true := decide_eq_true (by omega)
      have d1' : decide (jn < n) = true := decide_eq_true hjn'
      have hid : id ∈ ls := by rw [hsp]; simp
      have hio := (HLS.out id).1 hid
      obtain ⟨v, hv⟩ := Option.isSome_iff_exists.1 hio
      obtain ⟨a, ha, hba, -⟩ := MS_inv (by rw [HM.out]; exact hv)
      obtain ⟨x0, x1, a0, a1⟩ := OK.out.t id a ha
      have hge := GE.out id a ha
      have hri := HRI.out
      rw [hsp, List.pairwise_append] at hri
      have hpre : id ∉ pre := fun h => by have := hri.2.2 id h id (by simp); omega
      have hpost : id ∉ post := fun h => by have := (List.pairwise_cons.1 hri.2.1).1 id h; omega
      have lk := when_look1 sr2 (dom_wf x0 x1)
      rw [show Wp T B pre id = some a by unfold Wp; rw [if_neg fun h => hpre h.1, ha]] at lk
      simp only [Option.getD_some] at lk
      have cw := wl_when sr2
      obtain ⟨A', cap', hA, -, -, -, hcc⟩ := sr2.lis_cells (e := 3) (size := 1) (v := .slice (some ⟨g, off, none⟩) n cap) (n := n) (xs := iv ls) (2 + 704 + X.length) (wl_x (by rw [List.append_assoc]; simp))
      obtain ⟨g', off', hA4, hc⟩ := hcc.resolve_left (by omega)
      injection hA with hA1 hA2 hA3
      subst hA1
      injection hA4 with hA4
      injection hA4 with e1 e2
      subst e1 e2
      have ce := hc jn _ (iv_get (show ls[jn]? = some id by rw [hsp, ← hjn]; simp))
      have HSP := Lib.hid (show ls = (pre ++ [id]) ++ post by rw [hsp]; simp)
      have HJN := Lib.hid (show (pre ++ [id]).length = jn + 1 by rw [List.length_append, hjn]; rfl)
      have HN2 := Lib.hid hn2
      have SR2 := Lib.hid sr2
      have HA := Lib.hid ha
      have HPO := Lib.hid hpost
      by_cases hab : a = B
      · subst hab
        have d2 : decide (a < a) = false := decide_eq_false (by omega)
        have MW := Lib.hid (wl_whenn sr2)
        have HFI := Lib.hid (show (pre ++ [id]).filter (fun i => decide (T i = some a)) = pre.filter (fun i => decide (T i = some a)) ++ [id] by rw [List.filter_append]; simp [ha])
        clear hri hid hio hv hba hge hpre hpost sr2 ha hsp hjn hn2 hcc hc hnl hA3 hA2
        go_wp2_with (first
          | (at_delete; refine wpList_mapN_del rfl _ _ 262 3 rfl 34 Tryz.underlying3 Tryz.underlying262 bw (WV (Wp T a pre)) rfl MW.out id x0 x1 rfl ?_; intro w6 hm6 hg6; have s6 := wl_when_turn (v := none) SR2.out hm6 hg6; rw [wp_go HA.out, tp_go HA.out HPO.out] at s6; have s7 := s6.alloc (.cells #[.int .i64 id] 3); have hl7 := wl_last s7; have hr7 := rds_box w6 3 (.int .i64 id); have S7 := Lib.hid s7; have HL7 := Lib.hid hl7; have RB := Lib.hid hr7; clear hm6 hg6 s6 s7 hl7 hr7)
          | (at_builtin; refine wpList_lis rfl (.tmp 72) (.tmp 74) 35 rfl 3 iI (.int .i64 0) 1 8 Tryz.underlying35 hiI hzI hsI hbI rfl (by decide) _ _ _ rfl HL7.out _ 1 1 [.int .i64 id] rfl RB.out (by simp [Value.oneCell']) (by unfold maxLen; omega) (by omega) ?_; intro D cD w8 hl hg hat; have t8 := wl_lput S7.out hl hg hat; rw [show iv (pre.filter (fun i => decide (T i = some a))) ++ [.int .i64 id] = iv ((pre ++ [id]).filter (fun i => decide (T i = some a))) by rw [HFI.out, iv_app]; rfl] at t8; have S8 := Lib.hid t8; clear hl hg hat t8)
          | fail)
        go_roundw
        case rel => exact ⟨D, n2 + 1, cD, pre ++ [id], post, mb2, jn + 1, rfl, by go_num, HSP.out, HJN.out, by rw [HFI.out, List.length_append, HN2.out]; rfl, S8.out⟩
        case measure => simp [intOf]; omega
      · have d2 : decide (B < a) = true := decide_eq_true (by omega)
        have HAB := Lib.hid hab
        have HFI := Lib.hid (show (pre ++ [id]).filter (fun i => decide (T i = some B)) = pre.filter (fun i => decide (T i = some B)) by
          rw [List.filter_append]
          simp [ha, hab])
        have LC := Lib.hid (lay_c sr2 B0 (show B < a by omega) a1 x0 x1 tp_id)
        clear hri hid hio hv hba hge hpre hpost sr2 ha hsp hjn hn2 hcc hc hnl hA3 hA2 hab
        go_wp2_with fail
        refine LC.out.mono ?_
        rintro e w6 ⟨rfl, mb6, s6⟩
        rw [wp_lay HA.out HAB.out, tp_lay HA.out HAB.out HPO.out] at s6
        have S6 := Lib.hid s6
        clear s6 LC
        go_wp2_with fail
        go_roundw
        case rel => exact ⟨A2, n2, cap2, pre ++ [id], post, mb6, jn + 1, rfl, by go_num, HSP.out, HJN.out, by rw [HFI.out]; exact HN2.out, by rw [HFI.out]; exact S6.out⟩
        case measure => simp [intOf]; omega
  · intro x v w1 cn1 hwx hlx hat hit1 hlt hg1 hs1 hen
    obtain ⟨a, ha, hba, rfl⟩ := MS_inv (by rw [HM.out]; exact hat)
    obtain ⟨x0, x1, -, -⟩ := OK.out.t x a ha
    have hxl : x ∉ l := fun h => by
      have := ((HML.out x hwx).1 h).2
      rw [hlx] at this; cases this
    have s2 := SR.out.it_next _ (by rw [wg_at HS.out, if_pos rfl]) hit1 hg1
    have s3 : St w0 S0 w1 (WG 704 c bw (wv now bw mb) T (fun j => if j = s then ItM Tryz.prog 3 b r N M (fun j => left j && !(j == x)) cn1 else OptM Tryz.prog 3 (mb j) (MS T now j)) (X ++ [LisR 3 1 (.slice A n cap) n (iv l)])) := by
      rw [wg_s HS.out] at s2
      rw [wg_like (F' := fun j => if j = s then ItM Tryz.prog 3 b r N M (fun j => left j && !(j == x)) cn1 else OptM Tryz.prog 3 (mb j) (MS T now j))] at s2
      · exact s2
      · intro j hj
        by_cases e : j = s
        · rw [if_pos e, if_pos e]
        · rw [if_neg e, if_neg e, if_neg e]
    have s4 := s3.alloc (.cells #[.int .i64 x] 3)
    have HL4 := Lib.hid (wg_last s4)
    have RB := Lib.hid (rds_box w1 3 (.int .i64 x))
    have S4 := Lib.hid s4
    have HXL := Lib.hid hxl
    have HWX := Lib.hid hwx
    have HMX := Lib.hid (show (M x).isSome = true by rw [hat]; rfl)
    have HLT := Lib.hid (show wr.rangeLeft b r = cn ∧ cn1 < cn from ⟨HIT.out.left_eq, hlt⟩)
    clear hxl hlx hat hit1 hlt hg1 hs1 ha hba s2 s3 s4 hwx HIT
    go_wp2_with (at_builtin; refine wpList_lis rfl (.tmp 31) (.tmp 33) 35 rfl 3 iI (.int .i64 0) 1 8 Tryz.underlying35 hiI hzI hsI hbI rfl (by decide) _ _ _ rfl HL4.out _ 1 1 [.int .i64 x] rfl RB.out (by simp [Value.oneCell']) (by unfold maxLen; omega) (by omega) ?_; intro D cD w5 hl hg hat; have t5 := wg_lput S4.out hl hg hat; rw [show iv l ++ [.int .i64 x] = iv (l ++ [x]) from (iv_app l [x]).symm] at t5; have S5 := Lib.hid t5; clear hl hg hat t5)
    go_roundw
    case rel => exact ⟨D, n + 1, cD, l ++ [x], _, cn1, rfl, by rw [List.length_append, HLN.out]; rfl, S5.out, by
        rw [List.nodup_append]
        exact ⟨HND.out, by simp, fun y hy z hz e => by simp at hz; subst hz; subst e; exact HXL.out hy⟩, fun i hi => by
        rw [List.mem_append, HML.out i hi]
        by_cases e : i = x
        · subst e; simp [HMX.out]
        · simp [e], fun i hi => by
        rcases List.mem_append.1 hi with h | h
        · exact HSM.out i h
        · simp at h; subst h; exact ⟨x0, x1⟩⟩
    case measure =>
      rw [HLT.out.1, (S5.out.it_get _ (by rw [wg_at HS.out, if_pos rfl])).left_eq]
      exact HLT.out.2
end
end
section
set_option linter.unusedVariables false
set_option maxRecDepth 100000
set_option maxHeartbeats 2000000
/-- What a Go answers. -/
def goA (now u : Int) : Int := if u < 4611686018427387904 then (if u < now then 1 else 0) else 2
def goN (now u : Int) : Int := if goA now u = 0 then u else now
def goT (now : Int) (T : Int → Option Int) (u : Int) : Int → Option Int := if goA now u = 0 then aft T u else T
def GoP (now : Int) (T : Int → Option Int) (u : Int) (o : List Int) : Prop := if goA now u = 0 then OffP T u o else o = []
theorem GoP.uniq {now u : Int} {T : Int → Option Int} {o o' : List Int} (h : GoP now T u o) (h' : GoP now T u o') : o = o' := by
  unfold GoP at h h'
  split at h <;> rename_i hc
  · rw [if_pos hc] at h'; exact h.uniq h'
  · rw [if_neg hc] at h'; rw [h, h']
theorem goT_ok {now u : Int} {T : Int → Option Int} (ok : TOK now T) : TOK (goN now u) (goT now T u) := by
  unfold goN goT
  by_cases h : goA now u = 0
  · rw [if_pos h, if_pos h]
    unfold goA at h
    split at h
    · split at h
      · cases h
      · exact ok.aft (by omega) (by omega)
    · cases h
  · rw [if_neg h, if_neg h]; exact ok
theorem OffP.len {now u : Int} {T : Int → Option Int} {o : List Int} (ok : TOK now T) (h : OffP T u o) : o.length ≤ 1000 := len_small 1000 o h.nodup fun x hx => by
  obtain ⟨a, ha, -⟩ := (h.mem x).1 hx
  exact ⟨(ok.t x a ha).1, (ok.t x a ha).2.1⟩
theorem GoP.len {now u : Int} {T : Int → Option Int} {o : List Int} (ok : TOK now T) (h : GoP now T u o) : o.length ≤ 1000 := by
  unfold GoP at h
  split at h
  · exact h.len ok
  · rw [h]; exact Nat.zero_le _
def ncell (v : Option Value) : Int := match v with | some (.int _ x) => x | _ => 0
section
variable {w0 w w' : World} {S0 S : Nat → Prop} {L X : List Res} {m c bw s b n n' sz : Nat} {now at' id u : Int} {mb mb' : Nat → Option Nat} {W W' T T' : Int → Option Int} {e : TypeId} {v v' : Value} {xs xs' : List Value} {R : Res}
theorem wl_xset {k : Nat} {R : Res} : (WL m c bw now mb W T X).set (2 + m + k) R = WL m c bw now mb W T (X.set k R) := wg_xset
theorem wl_lput2 (H : St w0 S0 w (WL m c bw now mb W T ((X ++ [LisR e sz v n xs]) ++ [R]))) (hl : Lis w' e sz v' n' xs') (hg : w.grownBy w' v.ownBlock) (hat : v'.ownBlock = v.ownBlock ∨ ∃ g, v'.ownBlock = some g ∧ w.heap.size ≤ g) : St w0 S0 w' (WL m c bw now mb W T (X ++ [LisR e sz v' n' xs'])) := by
  have h := H.lis_put (e := e) (size := sz) (v := v) (n := n) (xs := xs) (2 + m + X.length) (wl_x (by rw [List.append_assoc]; simp)) hl hg hat
  rw [wl_xset, List.set_append_left _ _ (by simp), last_set] at h
  have h2 := h.drop (2 + m + (X.length + 1)) (by unfold WL; simp; omega)
  have e : (WL m c bw now mb W T ((X ++ [LisR e sz v' n' xs']) ++ [R])).eraseIdx (2 + m + (X.length + 1)) = WL m c bw now mb W T (X ++ [LisR e sz v' n' xs']) := by
    unfold WL
    rw [List.eraseIdx_append_of_length_le (by simp; omega)]
    congr 1
    rw [show 2 + m + (X.length + 1) - ([ArrR c 267 706 (wv now bw mb), OptM Tryz.prog 3 (some bw) (WV W)] ++ (List.range m).map (fun s => OptM Tryz.prog 3 (mb s) (MS T now s))).length = X.length + 1 by simp; omega]
    rw [List.eraseIdx_append_of_length_le (by simp)]
    simp
  rw [e] at h2; exact h2
/-- The time goes on, past no timer. -/
theorem wl_on (H : St w0 S0 w (WL 704 c bw now mb W T X)) (hms : ∀ j, MS T u j = MS T now j) : St w0 S0 (w.setCell ⟨c, 0, none⟩ (.int .u64 u)) (WL 704 c bw u mb W T X) :=
  wl_of (V := fun j => if j = 0 then .int .u64 u else wv now bw mb j) (F := fun s => OptM Tryz.prog 3 (mb s) (MS T now s)) (H.arr_set 0 wl_0 (show 0 < 706 by omega) (.int .u64 u)) (fun j hj => wv_now u j hj) (fun j hj => by rw [hms])
theorem Go_c (H : St w0 S0 w (WL 704 c bw now mb T T X)) (ok : TOK now T) (hu : 0 ≤ u) :
    Calls Tryz.prog 137 #[.pointer (some ⟨c, 0, none⟩), .int .u64 u] w fun e w' => ∃ A n cap o mb', e = .returned (.tuple #[.slice A n cap, .int .i64 (goA now u)]) ∧ GoP now T u o ∧ o.length = n ∧
      St w0 S0 w' (WL 704 c bw (goN now u) mb' (goT now T u) (goT now T u) (X ++ [LisR 3 1 (.slice A n cap) n (iv o)])) := by
  obtain ⟨iI, hiI, hzI, hsI, hbI⟩ := info3w YtdjhpdacglojaaaGreatiI
  have c0 := wl_now H
  have MY := Lib.hid (fun w => may_any u w)
  by_cases h4 : u < 4611686018427387904
  · have d4 : decide (u < 4611686018427387904) = true := decide_eq_true h4
    by_cases h3 : u < now
    · have d3 : decide (u < now) = true := decide_eq_true h3
      have e1 : goA now u = 1 := by unfold goA; rw [if_pos h4, if_pos h3]
      have e2 : goT now T u = T := by unfold goT; rw [e1]; rfl
      have e3 : goN now u = now := by unfold goN; rw [e1]; rfl
      have e4 := Lib.hid (show GoP now T u [] by unfold GoP; rw [e1]; rfl)
      rw [e1, e2, e3]
      have HH := Lib.hid (show St w0 S0 w (WL 704 c bw now mb T T (X ++ [LisR 3 1 (.slice none 0 0) 0 (iv [])])) by
        have h := H.lis_nil 3 1
        rw [wl_app] at h; exact h)
      clear H e1 e2 e3 h3 ok
      go_enter Tryz.func137, Tryz.ntmps137
      go_wp2_with fail
      refine (MY.out _).mono ?_
      rintro e w2 ⟨rfl, rfl⟩
      go_wp2_with fail
      go_ret2
      exact ⟨none, 0, 0, [], mb, rfl, e4.out, rfl, HH.out⟩
    · have d3 : decide (u < now) = false := decide_eq_false h3
      have e1 : goA now u = 0 := by unfold goA; rw [if_pos h4, if_neg h3]
      have e2 : goT now T u = aft T u := by unfold goT; rw [e1]; rfl
      have e3 : goN now u = u := by unfold goN; rw [e1]; rfl
      have e4 : ∀ o, OffP T u o → GoP now T u o := fun o h => by unfold GoP; rw [e1]; exact h
      have E4 := Lib.hid e4
      rw [e1, e2, e3]
      have HH := Lib.hid (show St w0 S0 w (WL 704 c bw now mb (aft T now) (aft T now) (X ++ [LisR 3 1 (.slice none 0 0) 0 (iv [])])) by
        have h := H.lis_nil 3 1
        rw [wl_app] at h
        rw [aft_like fun i a h => (ok.t i a h).2.2.1]
        exact h)
      have OK := Lib.hid ok
      have LE := Lib.hid (show now ≤ u by omega)
      clear H e1 e2 e3 e4 h3 ok
      go_enter Tryz.func137, Tryz.ntmps137
      go_wp2_with fail
      refine (MY.out _).mono ?_
      rintro e w2 ⟨rfl, rfl⟩
      clear MY
      go_wp2_with fail
      go_loopw [6] (fun x wr => ∃ (A : Option Addr) (n cap : Nat) (o : List Int) (now1 : Int) (mb1 : Nat → Option Nat), x = .slice A n cap ∧ o.length = n ∧ OffP T now1 o ∧ now ≤ now1 ∧ now1 ≤ u ∧ St w0 S0 wr (WL 704 c bw now1 mb1 (aft T now1) (aft T now1) (X ++ [LisR 3 1 (.slice A n cap) n (iv o)]))) (fun _ wr => (u - ncell (wr.cell? ⟨c, 0, none⟩)).toNat)
      case atStart => exact ⟨none, 0, 0, [], now, mb, rfl, rfl, OffP.nil OK.out, Int.le_refl _, LE.out, HH.out⟩
      case round =>
      clear HH c0 d3
      obtain ⟨A, n, cap, o, now1, mb1, rfl, hn, hoff, hl1, hl2, sr⟩ := hrel
      have HN := Lib.hid hn
      have HOFF := Lib.hid hoff
      have OK1 := Lib.hid (OK.out.aft hl1 (show now1 < 4611686018427387904 by omega))
      have C0 := Lib.hid (wl_now sr)
      have NX := Lib.hid (next_c sr)
      clear hn hoff sr
      go_wp2_with fail
      refine NX.out.mono ?_
      rintro e w3 ⟨s3, ⟨s, hs, rfl, hex, hf⟩ | ⟨rfl, hem⟩⟩
      · obtain ⟨k, hk⟩ := hex
        obtain ⟨v, hv⟩ := Option.isSome_iff_exists.1 hk
        obtain ⟨a, ha, hbs, -⟩ := MS_inv hv
        have hbl := hbs.bg_le
        obtain ⟨-, -, a0, a1⟩ := OK1.out.t k a ha
        have hb0 := hbs.now_lt a0
        obtain ⟨B, hB⟩ : ∃ B, bgS now1 s = B := ⟨_, rfl⟩
        rw [hB] at hbl hb0
        have BC := Lib.hid (begin_c s3 OK1.out.n0 OK1.out.n1 hs (by rw [hB]; omega))
        rw [hB] at BC
        have HB := Lib.hid hB
        have HS := Lib.hid hs
        have HF := Lib.hid (show First (aft T now1) now1 s from hf)
        have HEX := Lib.hid (show ∃ i, (MS (aft T now1) now1 s i).isSome = true from ⟨k, hk⟩)
        clear s3 NX hk hv ha hbs hB hf
        go_wp2_with fail
        refine BC.out.mono ?_
        rintro e w4 ⟨rfl, s4⟩
        by_cases hub : B ≤ u
        · have d5 : decide (u < B) = false := decide_eq_false (by omega)
          have OC := Lib.hid (open_c s4 OK1.out HS.out HEX.out HF.out (by rw [HB.out]; omega))
          rw [HB.out] at OC
          clear s4 BC
          go_wp2_with fail
          refine OC.out.mono ?_
          rintro e w5 ⟨A2, n2, cap2, o2, mb2, rfl, ho2, hn2, s5⟩
          rw [aft_aft (show now1 ≤ B by omega)] at s5
          have HO := Lib.hid (show OffP T B (o ++ o2) from HOFF.out.app (by omega) ho2)
          have HN2 := Lib.hid (show (o ++ o2).length = n + n2 by rw [List.length_append, HN.out, hn2])
          have hlen : n + n2 ≤ 1000 := by rw [← HN2.out]; exact HO.out.len OK.out
          have hl5 : Lis w5 3 1 (.slice A n cap) n (iv o) := s5.lis (2 + 704 + X.length) (wl_x (by rw [List.append_assoc]; simp))
          have hr5 := (wl_last s5).reads.2
          have HL5 := Lib.hid hl5
          have HR5 := Lib.hid (show Rds w5 A2 n2 1 (iv o2) from ⟨(wl_last s5).1, hr5⟩)
          have S5 := Lib.hid s5
          clear ho2 hn2 s5 hl5 hr5 OC
          go_wp2_with (at_builtin; refine wpList_lis rfl (.tmp 37) (.tmp 41) 35 rfl 3 iI (.int .i64 0) 1 8 Tryz.underlying35 hiI hzI hsI hbI rfl (by decide) _ _ _ rfl HL5.out A2 n2 cap2 (iv o2) rfl HR5.out (iv_one o2) (by unfold maxLen; omega) (by omega) ?_; intro D cD w6 hl hg hat; have t6 := wl_lput2 S5.out hl hg hat; rw [← iv_app] at t6; have S6 := Lib.hid t6; clear hl hg hat t6)
          go_roundw
          case rel => exact ⟨D, n + n2, cD, o ++ o2, B, mb2, rfl, HN2.out, HO.out, by omega, hub, S6.out⟩
          case measure => rw [C0.out, wl_now S6.out]; show (u - B).toNat < (u - now1).toNat; omega
        · have d5 : decide (u < B) = true := decide_eq_true (by omega)
          have hge : ∀ i a, aft T now1 i = some a → u < a := fun i a h => by
            have := HF.out.bg_le OK1.out h
            rw [HB.out] at this
            omega
          have hau : aft T now1 = aft T u := by rw [← aft_aft hl2, aft_like hge]
          have s5 := wl_on (u := u) s4 (HF.out.stay OK1.out HEX.out hl2 (by rw [HB.out]; omega))
          rw [hau] at s5
          have S5 := Lib.hid s5
          have HO := Lib.hid (show OffP T u o by
            have := HOFF.out.app hl2 (OffP.none hge)
            rwa [List.append_nil] at this)
          have cn := wl_now s4
          have fn := s4.arr_frozen 0 wl_0 0
          clear s4 BC hge hau s5
          go_wp2_with fail
          go_ret2
          exact ⟨_, _, _, _, _, rfl, E4.out _ HO.out, HN.out, S5.out⟩
      · have hno := empty_all OK1.out hem
        have hge : ∀ i a, aft T now1 i = some a → u < a := fun i a h => by rw [hno i] at h; cases h
        have hau : aft T now1 = aft T u := by rw [← aft_aft hl2, aft_like hge]
        have s5 := wl_on (u := u) s3 (empty_stay OK1.out hem)
        rw [hau] at s5
        have S5 := Lib.hid s5
        have HO := Lib.hid (show OffP T u o by
          have := HOFF.out.app hl2 (OffP.none hge)
          rwa [List.append_nil] at this)
        have cn := wl_now s3
        have fn := s3.arr_frozen 0 wl_0 0
        clear s3 NX hge hau s5 hno hem
        go_wp2_with fail
        go_ret2
        exact ⟨_, _, _, _, _, rfl, E4.out _ HO.out, HN.out, S5.out⟩
  · have d4 : decide (u < 4611686018427387904) = false := decide_eq_false h4
    have e1 : goA now u = 2 := by unfold goA; rw [if_neg h4]
    have e2 : goT now T u = T := by unfold goT; rw [e1]; rfl
    have e3 : goN now u = now := by unfold goN; rw [e1]; rfl
    have e4 := Lib.hid (show GoP now T u [] by unfold GoP; rw [e1]; rfl)
    rw [e1, e2, e3]
    have HH := Lib.hid (show St w0 S0 w (WL 704 c bw now mb T T (X ++ [LisR 3 1 (.slice none 0 0) 0 (iv [])])) by
      have h := H.lis_nil 3 1
      rw [wl_app] at h; exact h)
    clear H e1 e2 e3 h4 ok
    go_enter Tryz.func137, Tryz.ntmps137
    go_wp2_with fail
    refine (MY.out _).mono ?_
    rintro e w2 ⟨rfl, rfl⟩
    go_wp2_with fail
    go_ret2
    exact ⟨none, 0, 0, [], mb, rfl, e4.out, rfl, HH.out⟩
end
end
section
set_option linter.unusedVariables false
set_option maxRecDepth 100000
set_option maxHeartbeats 2000000
/-- A wheel, its timers, and X. -/
def Wk (w0 : World) (S0 : Nat → Prop) (c bw : Nat) (now : Int) (T : Int → Option Int) (X : List Res) (w : World) : Prop := TOK now T ∧ ∃ mb, St w0 S0 w (WL 704 c bw now mb T T X)
section
variable {w0 w w' : World} {S0 S : Nat → Prop} {L X : List Res} {c bw n : Nat} {now at' id u : Int} {T : Int → Option Int}
theorem tok_none : TOK 0 (fun _ => none) := ⟨by omega, by omega, fun i a h => by cases h⟩
theorem New_k (H : St w0 S0 w X) : Calls Tryz.prog 141 #[] w fun e w' => ∃ c bw, e = .returned (.pointer (some ⟨c, 0, none⟩)) ∧ Wk w0 S0 c bw 0 (fun _ => none) X w' :=
  (New_o H).mono fun e w' ⟨c, bw, he, s⟩ => ⟨c, bw, he, tok_none, _, s⟩
theorem Set_k (H : Wk w0 S0 c bw now T X w) (ha : 0 ≤ at') : Calls Tryz.prog 106 #[.pointer (some ⟨c, 0, none⟩), .int .i64 id, .int .u64 at'] w fun e w' => e = .returned (.int .i64 (setA now id at')) ∧ Wk w0 S0 c bw now (setT now T id at') X w' := by
  obtain ⟨ok, mb, s⟩ := H
  exact (Set_c s ok ha).mono fun e w' ⟨he, mb', s'⟩ => ⟨he, setT_ok ok id at', mb', s'⟩
theorem Cancel_k (H : Wk w0 S0 c bw now T X w) (hi : wfI id) : Calls Tryz.prog 147 #[.pointer (some ⟨c, 0, none⟩), .int .i64 id] w fun e w' => e = .returned (.int .i64 (if (T id).isSome = true then 0 else 6)) ∧ Wk w0 S0 c bw now (updT T id none) X w' := by
  obtain ⟨ok, mb, s⟩ := H
  exact (Cancel_c s ok hi).mono fun e w' ⟨he, s'⟩ => ⟨he, ok.del id, mb, s'⟩
theorem Now_k (H : Wk w0 S0 c bw now T X w) : Calls Tryz.prog 104 #[.pointer (some ⟨c, 0, none⟩)] w fun e w' => e = .returned (.int .u64 now) ∧ Wk w0 S0 c bw now T X w' := by
  obtain ⟨ok, mb, s⟩ := H
  exact (Now_c s).mono fun e w' ⟨he, s'⟩ => ⟨he, ok, mb, s'⟩
theorem Go_k (H : Wk w0 S0 c bw now T X w) (hu : 0 ≤ u) : Calls Tryz.prog 137 #[.pointer (some ⟨c, 0, none⟩), .int .u64 u] w fun e w' => ∃ A n cap o, e = .returned (.tuple #[.slice A n cap, .int .i64 (goA now u)]) ∧ GoP now T u o ∧ o.length = n ∧ n ≤ 1000 ∧
      Wk w0 S0 c bw (goN now u) (goT now T u) (X ++ [LisR 3 1 (.slice A n cap) n (iv o)]) w' := by
  obtain ⟨ok, mb, s⟩ := H
  exact (Go_c s ok hu).mono fun e w' ⟨A, n, cap, o, mb', he, hp, hn, s'⟩ => ⟨A, n, cap, o, he, hp, hn, by rw [← hn]; exact hp.len ok, goT_ok ok, mb', s'⟩
theorem Wk.drew (H : Wk w0 S0 c bw now T X w) : Wk w0 S0 c bw now T X w.drew := ⟨H.1, H.2.imp fun mb s => s.drewN 1⟩
theorem Wk.below (H : Wk w0 None c bw now T X w) : Below w0.heap.size w0 w := by obtain ⟨_, mb, s⟩ := H; exact s.below
/-- A list among the rest. -/
theorem Wk.list (H : Wk w0 S0 c bw now T X w) {k : Nat} {A : Option Addr} {cap : Nat} {o : List Int} (hx : X[k]? = some (LisR 3 1 (.slice A n cap) n (iv o))) (hn : o.length = n) (h0 : 0 < n) :
    ∃ g off, A = some ⟨g, off, none⟩ ∧ ∀ j x, o[j]? = some x → w.cell? ⟨g, off + j, none⟩ = some (.int .i64 x) := by
  obtain ⟨_, mb, s⟩ := H
  obtain ⟨A', cap', hA, -, -, -, hc⟩ := s.lis_cells _ (wl_x hx)
  injection hA with hA1
  subst hA1
  obtain ⟨g, off, hg, hc⟩ := hc.resolve_left (by omega)
  exact ⟨g, off, hg, fun j x hj => hc j _ (iv_get hj)⟩
/-- What lies beside is dropped. -/
theorem Wk.forget (H : Wk w0 S0 c bw now T (X ++ L) w) : Wk w0 S0 c bw now T X w := by
  obtain ⟨ok, mb, s⟩ := H
  refine ⟨ok, mb, ?_⟩
  have h := s.take (WL 704 c bw now mb T T X).length
  rw [← wl_app, List.take_left] at h
  exact h
theorem offP_one {i0 a0 : Int} (h0 : T i0 = some a0) (hu : a0 ≤ u) (ho : ∀ i a, i ≠ i0 → T i = some a → u < a) : OffP T u [i0] :=
  ⟨List.pairwise_singleton _ _, fun i => by
    rw [List.mem_singleton]
    constructor
    · rintro rfl; exact ⟨a0, h0, hu⟩
    · rintro ⟨a, h1, h2⟩
      apply Classical.byContradiction
      intro hne
      have := ho i a hne h1
      omega⟩
end
/-- Two timers. -/
def T12 (a b : Int) : Int → Option Int := updT (updT (fun _ => none) 1 (some a)) 2 (some b)
theorem t12_1 (a b : Int) : T12 a b 1 = some a := by unfold T12 updT; simp
theorem t12_2 (a b : Int) : T12 a b 2 = some b := by unfold T12 updT; simp
theorem t12_o {a b i x : Int} (h : T12 a b i = some x) : (i = 1 ∧ x = a) ∨ (i = 2 ∧ x = b) := by
  unfold T12 updT at h
  split at h
  · injection h with h; exact Or.inr ⟨by assumption, h.symm⟩
  · split at h
    · injection h with h; exact Or.inl ⟨by assumption, h.symm⟩
    · cases h
end
section
set_option linter.unusedVariables false
/-- Those of the first m numbers that are asked for. -/
def fl (P : Nat → Bool) (m : Nat) : List Int := ((List.range m).filter P).map fun (i : Nat) => (i : Int)
theorem fl_len (P : Nat → Bool) (m : Nat) : (fl P m).length = cf P m := by unfold fl cf; rw [List.length_map]
theorem fl_mem (P : Nat → Bool) (m : Nat) (i : Int) : i ∈ fl P m ↔ ∃ k : Nat, i = k ∧ k < m ∧ P k = true := by
  unfold fl
  rw [List.mem_map]
  constructor
  · rintro ⟨k, hk, rfl⟩
    rw [List.mem_filter, List.mem_range] at hk
    exact ⟨k, rfl, hk⟩
  · rintro ⟨k, rfl, hk⟩
    exact ⟨k, by rw [List.mem_filter, List.mem_range]; exact hk, rfl⟩
theorem fl_sort (P : Nat → Bool) (m : Nat) : (fl P m).Pairwise (· < ·) := by
  unfold fl
  rw [List.pairwise_map]
  refine List.Pairwise.imp ?_ (List.Pairwise.filter P List.pairwise_lt_range)
  intro a b h; omega
theorem fl_at (P : Nat → Bool) {m k : Nat} (hk : k < m) (hP : P k = true) : (fl P m)[cf P k]? = some (k : Int) := by
  obtain ⟨b, rfl⟩ : ∃ b, m = k + (b + 1) := ⟨m - k - 1, by omega⟩
  unfold fl cf
  rw [List.getElem?_map, List.range_add, List.filter_append, List.getElem?_append_right (Nat.le_refl _), Nat.sub_self, List.range_succ_eq_map, List.map_cons, List.filter_cons]
  simp [hP]
theorem cf_lt (P : Nat → Bool) {m k : Nat} (hk : k < m) (hP : P k = true) : cf P k < cf P m := by
  have h := fl_at P hk hP
  have := (List.getElem?_eq_some_iff.1 h).1
  rwa [fl_len] at this
/-- The first k timers, by when they go off. -/
def tmN (g : Nat → Int) (k : Nat) : Int → Option Int := fun i => if 0 ≤ i ∧ i < k then some (g i.toNat) else none
theorem tmN_zero (g : Nat → Int) : tmN g 0 = fun _ => none := by
  funext i; unfold tmN; rw [if_neg (by omega)]
theorem tmN_some {g : Nat → Int} {k : Nat} {i a : Int} (h : tmN g k i = some a) : ∃ j : Nat, i = j ∧ j < k ∧ a = g j := by
  unfold tmN at h
  split at h
  · injection h with h; exact ⟨i.toNat, by omega, by omega, h.symm⟩
  · cases h
theorem tmN_at (g : Nat → Int) {k j : Nat} (h : j < k) : tmN g k (j : Int) = some (g j) := by
  unfold tmN; rw [if_pos (by omega)]; rfl
theorem tmN_put (g : Nat → Int) (k : Nat) : updT (tmN g k) (k : Int) (some (g k)) = tmN g (k + 1) := by
  funext i
  unfold updT tmN
  by_cases e : i = (k : Int)
  · subst e; rw [if_pos rfl, if_pos (by omega)]; rfl
  · rw [if_neg e]
    by_cases h : 0 ≤ i ∧ i < (k : Int)
    · rw [if_pos h, if_pos (by omega)]
    · rw [if_neg h, if_neg (by omega)]
theorem set_new {now id a : Int} (h0 : 0 ≤ id) (h1 : id < 1000) (h2 : now < a) (h3 : a < 4611686018427387904) (T : Int → Option Int) : setA now id a = 0 ∧ setT now T id a = updT T id (some a) := by
  have e : setA now id a = 0 := by unfold setA; rw [if_neg (by omega), if_pos h3]
  exact ⟨e, by unfold setT; rw [if_pos e]⟩
theorem tmN_set (g : Nat → Int) {k : Nat} (hk : k < 1000) {x : Int} (hx : x = g k) (h0 : 0 < x) (h1 : x < 4611686018427387904) : setA 0 (k : Int) x = 0 ∧ setT 0 (tmN g k) (k : Int) x = tmN g (k + 1) := by
  obtain ⟨a, b⟩ := set_new (now := 0) (id := (k : Int)) (by omega) (by omega) h0 h1 (tmN g k)
  exact ⟨a, by rw [b, hx, tmN_put]⟩
/-- What goes off in one tick. -/
theorem offN (g : Nat → Int) (n : Nat) (t : Int) : OffP (aft (tmN g n) (t - 1)) t (fl (fun i => decide (g i = t)) n) := by
  refine OffP.one (fun i a h => by have := (aft_some h).2; omega) (fl_sort _ _) fun i => ?_
  rw [fl_mem]
  constructor
  · rintro ⟨k, rfl, hk, hP⟩
    have hg : g k = t := of_decide_eq_true hP
    exact aft_at (by rw [tmN_at g hk, hg]) (by omega)
  · intro h
    obtain ⟨j, rfl, hj, ha⟩ := tmN_some (aft_some h).1
    exact ⟨j, rfl, hj, decide_eq_true ha.symm⟩
theorem go_ok {now u : Int} (h : now ≤ u) (hu : u < 4611686018427387904) (T : Int → Option Int) : goA now u = 0 ∧ goN now u = u ∧ goT now T u = aft T u := by
  have e : goA now u = 0 := by unfold goA; rw [if_pos hu, if_neg (by omega)]
  exact ⟨e, by unfold goN; rw [if_pos e], by unfold goT; rw [if_pos e]⟩
theorem goP_ok {now u : Int} (h : now ≤ u) (hu : u < 4611686018427387904) {T : Int → Option Int} {o : List Int} (ho : OffP T u o) : GoP now T u o := by
  unfold GoP; rw [if_pos (go_ok h hu T).1]; exact ho
theorem GoP.off {now u : Int} (h : now ≤ u) (hu : u < 4611686018427387904) {T : Int → Option Int} {o : List Int} (ho : GoP now T u o) : OffP T u o := by
  unfold GoP at ho; rw [if_pos (go_ok h hu T).1] at ho; exact ho
theorem aft_all {T : Int → Option Int} {u : Int} (h : ∀ i a, T i = some a → a ≤ u) : aft T u = fun _ => none := by
  funext i
  cases hT : T i with
  | none => exact aft_none hT
  | some a => exact aft_off hT (h i a hT)
end
section
set_option linter.unusedVariables false
set_option maxRecDepth 100000
set_option maxHeartbeats 1000000
/-- A wheel as one thing. -/
def WheelR (c : Nat) (now : Int) (T : Int → Option Int) : Res := fun w S => TOK now T ∧ ∃ bw mb, Star (WL 704 c bw now mb T T []) w S
theorem WheelR.ok (c : Nat) (now : Int) (T : Int → Option Int) : Ok (WheelR c now T) :=
  ⟨fun {w S} h => by obtain ⟨_, bw, mb, h⟩ := h; exact (Star.ok _).lt h, fun {w w' S} h hk => by obtain ⟨o, bw, mb, h⟩ := h; exact ⟨o, bw, mb, (Star.ok _).frame h hk⟩⟩
/-- An append behind a guard that holds. -/
theorem wpList_lis_g {w : World} {P : Program} {ops : Array Oper} {rest : List Oper} {o : Oper} {a : Act} {Q : Exit → Act → World → Prop} (hgd : Region.wanted o (yielded ops a.tmps) = true) (s x : Operand) (t : TypeId)
    (ho : o.op = .call { callee := .builtin .append, args := #[s, x], argTypes := #[t, t] })
    (e : TypeId) (i : TypeInfo) (z : Value) (size bytes : Nat) (ht : P.underlying t = some (.slice e)) (hi : P.info? e = some i) (hz : i.zero = some z)
    (hsize : i.size = size) (hby : i.bytes = bytes) (hzs : z.cells.size = size) (hsz : 0 < size) (v : Value) (n : Nat) (xs : List Value) (hs : a.eval s = v) (h : Lis w e size v n xs)
    (A : Option Addr) (m c : Nat) (news : List Value) (hx : a.eval x = .slice A m c) (hr : Rds w A m size news) (h1 : ∀ u ∈ news, u.oneCell' = true) (h63 : n + m ≤ maxLen) (hbytes : (n + m) * bytes ≤ 140737488355328)
    (hK : ∀ B cap w', Lis w' e size (.slice B (n + m) cap) (n + m) (xs ++ news) → w.grownBy w' v.ownBlock → ((Value.slice B (n + m) cap).ownBlock = v.ownBlock ∨ ∃ g, (Value.slice B (n + m) cap).ownBlock = some g ∧ w.heap.size ≤ g) → wpList P ops Q rest (a.put o.dst (.slice B (n + m) cap)) w') : wpList P ops Q (o :: rest) a w :=
  wpList_step fun K hK2 => by
    rw [if_pos hgd]
    obtain ⟨v', w', hrun, h2, h3, h4⟩ := run_lis (P := P) (w := w) t o.type i z bytes ht hi hz hsize hby hzs hsz h A m c news hr h1 h63 hbytes
    unfold Oper.wp execOp
    simp only [ho, resolve, invoke, builtin, Sem.run_bind, Sem.run_pure, Result.andThen_ok, List.map_toArray, List.map_cons, List.map_nil, hs, hx, hrun]
    obtain ⟨B, cap, rfl, _⟩ := h2.shape
    exact hK2 _ _ (hK B cap w' h2 h3 h4)
section
variable {w0 w w' : World} {S0 S : Nat → Prop} {L X : List Res} {c : Nat} {now at' id u : Int} {T : Int → Option Int}
theorem wNew_o (H : St w0 S0 w L) : Calls Tryz.prog 141 #[] w fun e w' => ∃ c, e = .returned (.pointer (some ⟨c, 0, none⟩)) ∧ St w0 S0 w' (L ++ [WheelR c 0 (fun _ => none)]) :=
  (New_c w).mono fun e w' ⟨c, bw, he, s⟩ => ⟨c, he, by
    obtain ⟨S, hs, hd⟩ := s
    exact H.more hd.to_below (Star.one (WheelR.ok _ _ _) ⟨tok_none, bw, _, hs⟩) fun b hb => (hd.own b hb).resolve_left id⟩
theorem wSet_o (H : St w0 S0 w L) (i : Nat) (hi : L[i]? = some (WheelR c now T)) (ha : 0 ≤ at') : Calls Tryz.prog 106 #[.pointer (some ⟨c, 0, none⟩), .int .i64 id, .int .u64 at'] w fun e w' => e = .returned (.int .i64 (setA now id at')) ∧ St w0 S0 w' (L.set i (WheelR c now (setT now T id at'))) :=
  St.call (fun w S h => by
    obtain ⟨ok, bw, mb, hs⟩ := h
    exact (Set_c (St.start hs) ok ha).mono fun e w' ⟨he, mb', s'⟩ => ⟨he, s'.fin fun S' h => ⟨setT_ok ok id at', bw, mb', h⟩⟩) (WheelR.ok _ _ _) H i hi
theorem wCancel_o (H : St w0 S0 w L) (i : Nat) (hi : L[i]? = some (WheelR c now T)) (hid : wfI id) : Calls Tryz.prog 147 #[.pointer (some ⟨c, 0, none⟩), .int .i64 id] w fun e w' => e = .returned (.int .i64 (if (T id).isSome = true then 0 else 6)) ∧ St w0 S0 w' (L.set i (WheelR c now (updT T id none))) :=
  St.call (fun w S h => by
    obtain ⟨ok, bw, mb, hs⟩ := h
    exact (Cancel_c (St.start hs) ok hid).mono fun e w' ⟨he, s'⟩ => ⟨he, s'.fin fun S' h => ⟨ok.del id, bw, mb, h⟩⟩) (WheelR.ok _ _ _) H i hi
theorem wNow_o (H : St w0 S0 w L) (i : Nat) (hi : L[i]? = some (WheelR c now T)) : Calls Tryz.prog 104 #[.pointer (some ⟨c, 0, none⟩)] w fun e w' => e = .returned (.int .u64 now) ∧ St w0 S0 w' L := by
  have h := St.call (R := WheelR c now T) (R' := WheelR c now T) (fun w S h => by
    obtain ⟨ok, bw, mb, hs⟩ := h
    exact (Now_c (St.start hs)).mono fun e w' ⟨he, s'⟩ => ⟨he, s'.fin fun S' h => ⟨ok, bw, mb, h⟩⟩) (WheelR.ok _ _ _) H i hi
  rwa [set_same hi] at h
theorem wGo_o (H : St w0 S0 w L) (i : Nat) (hi : L[i]? = some (WheelR c now T)) (hu : 0 ≤ u) : Calls Tryz.prog 137 #[.pointer (some ⟨c, 0, none⟩), .int .u64 u] w fun e w' => ∃ A n cap o, e = .returned (.tuple #[.slice A n cap, .int .i64 (goA now u)]) ∧ GoP now T u o ∧ o.length = n ∧ n ≤ 1000 ∧
      St w0 S0 w' (L.set i (WheelR c (goN now u) (goT now T u)) ++ [LisR 3 1 (.slice A n cap) n (iv o)]) := by
  refine (St.call_more (α := Option Addr × Nat × Nat × List Int) (R := WheelR c now T) (R' := WheelR c (goN now u) (goT now T u)) (N := fun x => [LisR 3 1 (.slice x.1 x.2.1 x.2.2.1) x.2.1 (iv x.2.2.2)]) (Post := fun x e => e = .returned (.tuple #[.slice x.1 x.2.1 x.2.2.1, .int .i64 (goA now u)]) ∧ GoP now T u x.2.2.2 ∧ x.2.2.2.length = x.2.1 ∧ x.2.1 ≤ 1000) ?_ H i hi).mono fun e w' ⟨⟨A, n, cap, o⟩, ⟨h1, h2, h3, h4⟩, s⟩ => ⟨A, n, cap, o, h1, h2, h3, h4, s⟩
  intro w S h
  obtain ⟨ok, bw, mb, hs⟩ := h
  refine (Go_c (St.start hs) ok hu).mono fun e w' ⟨A, n, cap, o, mb', he, hp, hn, s'⟩ => ⟨(A, n, cap, o), ⟨he, hp, hn, by dsimp only; rw [← hn]; exact hp.len ok⟩, ?_⟩
  rw [← wl_app] at s'
  exact (s'.comm.fold (WheelR.ok c (goN now u) (goT now T u)) fun S' h => ⟨goT_ok ok, bw, mb', h⟩).comm
end
end
end Go.Proofs.YtdjhpdacglojaaaGreat
