/- Layer 4: a place is opened, walked. -/
import Derived.Test.YthdhfjcgboglfaaWhH
import Derived.Test.YthdhfjcgboglfaaSortJ
import Derived.WalkMore
namespace Go.Proofs.Ythdhfjcgboglfaa
open Go.RowKit
set_option linter.unusedVariables false
set_option maxRecDepth 100000
set_option maxHeartbeats 2000000
theorem info3w {P : Program} {e : TypeId} {z : Value} {m b : Nat} (h : (P.info? e).map (fun i => (i.zero, i.size, i.bytes)) = some (some z, m, b)) : ∃ i, P.info? e = some i ∧ i.zero = some z ∧ i.size = m ∧ i.bytes = b := by
  cases hi : P.info? e with
  | none => rw [hi] at h; cases h
  | some i => rw [hi] at h; simp at h; exact ⟨i, rfl, h.1, h.2.1, h.2.2⟩
section
variable {w0 w w' : World} {S0 S : Nat → Prop} {L X : List Res} {m c bw s b n : Nat} {now at' id : Int} {mb mb' : Nat → Option Nat} {W W' T T' : Int → Option Int} {V V' : Nat → Value} {F F' : Nat → Res}
theorem open_c (H : St w0 S0 w (WL 704 c bw now mb T T X)) (ok : TOK now T) (hs : s < 704) (hex : ∃ i, (MS T now s i).isSome = true) (hf : First T now s) (hb : bgS now s < 4611686018427387904) :
    Calls Try.prog 38 #[.pointer (some ⟨c, 0, none⟩), .int .i64 ((s / 64 : Nat) : Int), .int .i64 ((s % 64 : Nat) : Int)] w fun e w' => ∃ A n cap o mb', e = .returned (.slice A n cap) ∧ OffP T (bgS now s) o ∧ o.length = n ∧
      St w0 S0 w' (WL 704 c bw (bgS now s) mb' (aft T (bgS now s)) (aft T (bgS now s)) (X ++ [LisR 3 1 (.slice A n cap) n (iv o)])) := by
  obtain ⟨iI, hiI, hzI, hsI, hbI⟩ := info3w YthdhfjcgboglfaaiI
  obtain ⟨B, hB⟩ : ∃ B, bgS now s = B := ⟨_, rfl⟩
  have BC := Lib.hid (begin_c H ok.n0 ok.n1 hs hb)
  have OK := Lib.hid ok
  have HF := Lib.hid hf
  have HB := Lib.hid hB
  have GE := Lib.hid (show ∀ i a, T i = some a → B ≤ a from fun i a h => by rw [← hB]; exact hf.bg_le ok h)
  rw [hB] at BC hb ⊢
  have B0 : 0 ≤ B := by
    obtain ⟨k, hk⟩ := hex
    obtain ⟨v, hv⟩ := Option.isSome_iff_exists.1 hk
    obtain ⟨a, ha, hbs, -⟩ := MS_inv hv
    have := hbs.now_lt (ok.t k a ha).2.2.1
    have := ok.n0
    omega
  obtain ⟨b, hbm⟩ : ∃ b, mb s = some b := by
    cases hbm : mb s with
    | none => obtain ⟨k, hk⟩ := hex; rw [wl_empty H hs hbm k] at hk; cases hk
    | some b => exact ⟨b, rfl⟩
  have HBM := Lib.hid hbm
  have HEX := Lib.hid hex
  have HS := Lib.hid hs
  have q0 : (0 : Int) ≤ ((s / 64 : Nat) : Int) := by omega
  have q1 : ((s / 64 : Nat) : Int) < 11 := by omega
  have q2 : (0 : Int) ≤ ((s % 64 : Nat) : Int) := by omega
  have q3 : ((s % 64 : Nat) : Int) < 64 := by omega
  clear H ok hex hf hB hbm
  go_enter Try.func38, Try.ntmps38
  go_wp2_with fail
  refine BC.out.mono ?_
  rintro e w2 ⟨rfl, s2⟩
  have cs := wl_cell s2 hs
  rw [← ea, HBM.out] at cs
  have MN := Lib.hid (wl_mapn s2 hs HBM.out)
  have S2 := Lib.hid s2
  obtain ⟨M, hM⟩ : ∃ M, MS T now s = M := ⟨_, rfl⟩
  obtain ⟨r, hr⟩ : ∃ r, w2.heap.size = r := ⟨_, rfl⟩
  obtain ⟨N, hN⟩ : ∃ N, cnt M = N := ⟨_, rfl⟩
  have HM := Lib.hid hM
  have HR := Lib.hid hr
  have HN := Lib.hid hN
  rw [hM] at MN
  have MP := Lib.hid (show MapI w2 Try.prog 3 b N M by rw [← hN]; exact MN.out.mapi)
  clear s2 BC hM hr hN
  go_wp2_with (first
    | (at_range; refine wpList_mapI_range rfl _ 79 rfl 3 22 Try.underlying3 Try.underlying79 b N M rfl MP.out ?_; intro w3 cnt0 hit0 hg0 hsz0; rw [HR.out] at hit0)
    | fail)
  rw [HR.out]
  have S3 := Lib.hid (show ∃ left cn, St w0 S0 w3 (WG 704 c bw (wv now bw mb) T (fun j => if j = s then ItM Try.prog 3 b r N M left cn else OptM Try.prog 3 (mb j) (MS T now j)) (X ++ [LisR 3 1 (.slice none 0 0) 0 (iv [])])) ∧ ∀ i, left i = (M i).isSome from ⟨_, _, by
    have h2 := wl_s (now := now) (c := c) (bw := bw) (mb := mb) (W := T) (T := T) (X := X) HS.out
    rw [HBM.out, HM.out] at h2
    rw [← HR.out] at hit0 ⊢
    have h3 := S2.out.it_start _ h2 hit0 hg0
    have h4 : St w0 S0 w3 (WG 704 c bw (wv now bw mb) T (fun j => if j = s then ItM Try.prog 3 b w2.heap.size N M (fun i => (M i).isSome) cnt0 else OptM Try.prog 3 (mb j) (MS T now j)) X) := by
      rw [← wg_s HS.out]; exact h3
    have h5 := h4.lis_nil 3 1
    rw [wg_app] at h5
    exact h5, fun i => rfl⟩)
  clear hit0 hg0 hsz0 cs S2 MP
  go_frame
  go_loopw [8] (fun x wr => ∃ (A : Option Addr) (n cap : Nat) (l : List Int) (left : Int → Bool) (cn : Nat), x = .slice A n cap ∧ l.length = n ∧ St w0 S0 wr (WG 704 c bw (wv now bw mb) T (fun j => if j = s then ItM Try.prog 3 b r N M left cn else OptM Try.prog 3 (mb j) (MS T now j)) (X ++ [LisR 3 1 (.slice A n cap) n (iv l)])) ∧ l.Nodup ∧ (∀ i, wfI i → (i ∈ l ↔ (M i).isSome = true ∧ left i = false)) ∧ (∀ i ∈ l, 0 ≤ i ∧ i < 1000)) (fun _ wr => wr.rangeLeft b r)
  case atStart =>
    obtain ⟨left, cn, h, hl⟩ := S3.out
    exact ⟨none, 0, 0, [], left, cn, rfl, rfl, h, .nil, fun i _ => ⟨fun h => (by cases h), fun ⟨h1, h2⟩ => by rw [hl, h1] at h2; cases h2⟩, fun i h => by cases h⟩
  case round =>
  clear S3
  obtain ⟨A, n, cap, l, left, cn, rfl, hln, sr, hnd, hml, hsm⟩ := hrel
  have hit := sr.it_get _ (by rw [wg_at HS.out, if_pos rfl])
  have HIT := Lib.hid hit
  have SR := Lib.hid sr
  have HND := Lib.hid hnd
  have HML := Lib.hid hml
  have HSM := Lib.hid hsm
  have HLN := Lib.hid hln
  have hn1 : n ≤ 1000 := by rw [← hln]; exact len_small 1000 l hnd hsm
  clear sr hit hnd hml hsm hln
  go_wp2_with (first
    | (at_next; refine wpList_mapI_next rfl _ rfl 3 Try.underlying3 b r N M left cn rfl HIT.out ?_ ?_)
    | fail)
  · intro _ hl0
    have HL0 := Lib.hid hl0
    clear hl0
    have hlm : ∀ i, i ∈ l ↔ (M i).isSome = true := fun i => by
      constructor
      · intro h
        obtain ⟨h0, h1⟩ := HSM.out i h
        exact ((HML.out i (dom_wf h0 h1)).1 h).1
      · intro h
        obtain ⟨h0, h1⟩ := MN.out.2 i h
        have hw := dom_wf h0 h1
        exact (HML.out i hw).2 ⟨h, HL0.out i hw⟩
    have hn0 : 0 < n := by
      obtain ⟨k, hk⟩ := HEX.out
      rw [HM.out] at hk
      rw [← HLN.out]
      exact List.length_pos_of_mem ((hlm k).2 hk)
    obtain ⟨A', cap', hA, hcap, hcap2, hx, hcc⟩ := SR.out.lis_cells _ (wg_x last_at)
    injection hA with hA1 hA2 hA3
    subst hA1 hA3
    obtain ⟨g, off, rfl, -⟩ := hcc.resolve_left (by omega)
    have SORT := Lib.hid (sort_i SR.out (wg_x last_at) (by omega) hn0)
    have HLM := Lib.hid hlm
    clear hlm hx hcc
    go_wp2_with fail
    refine SORT.out.mono ?_
    rintro e w4 ⟨rfl, s4⟩
    rw [wg_xset, last_set] at s4
    obtain ⟨ls, hls⟩ : ∃ ls, (l.mergeSort fun x y => decide (x ≤ y)) = ls := ⟨_, rfl⟩
    have hperm : ls.Perm l := by rw [← hls]; exact List.mergeSort_perm l _
    have HRI := Lib.hid (show ls.Pairwise (· < ·) by rw [← hls]; exact rising_of HND.out)
    rw [hls] at s4
    have HLS := Lib.hid (show ∀ i, i ∈ ls ↔ (M i).isSome = true from fun i => hperm.mem_iff.trans (HLM.out i))
    have HLL := Lib.hid (hperm.length_eq.trans HLN.out)
    have ce := s4.arr_cell 0 rfl (show 2 + s < 706 by omega)
    have hv2 : wv now bw mb (2 + s) = .map (some b) := by
      unfold wv
      rw [if_neg (by omega), if_neg (by omega), show 2 + s - 2 = s by omega, HBM.out]
    rw [hv2, ← ea] at ce
    have fr := s4.arr_frozen 0 rfl (2 + s / 64 * 64 + s % 64)
    have ce0 : (w4.setCell ⟨c, 2 + s / 64 * 64 + s % 64, none⟩ (.map none)).cell? ⟨c, 0, none⟩ = some (.int .u64 now) := by
      rw [ea]
      exact (s4.arr_set 0 rfl (show 2 + s < 706 by omega) (.map none)).arr_cell 0 rfl (show 0 < 706 by omega) |>.trans (by rw [if_neg (by omega)]; rfl)
    have fr0 : (w4.setCell ⟨c, 2 + s / 64 * 64 + s % 64, none⟩ (.map none)).frozen? ⟨c, 0, none⟩ = false := by
      rw [ea]
      exact (s4.arr_set 0 rfl (show 2 + s < 706 by omega) (.map none)).arr_frozen 0 rfl 0
    rw [← HM.out] at s4
    have s5 := wl_open (T' := Tp T B [] ls) s4 OK.out HS.out HF.out (fun i => by
      unfold Tp
      rw [wp_nil, HM.out]
      by_cases h : i ∈ ls
      · rw [if_pos h, if_pos ((HLS.out i).1 h)]
      · rw [if_neg h, if_neg fun h2 => h ((HLS.out i).2 h2)])
    rw [HB.out, ← ea] at s5
    have s6 := s5.lis_nil 3 1
    rw [wl_app] at s6
    have S6 := Lib.hid s6
    clear s4 s5 s6 SORT SR hls hperm hv2
    go_wp2_with fail
    go_loopw [10, 50] (fun x y wr => ∃ (A2 : Option Addr) (n2 cap2 : Nat) (pre post : List Int) (mb2 : Nat → Option Nat) (jn : Nat), x = .slice A2 n2 cap2 ∧ y = .int .i64 (jn : Int) ∧ ls = pre ++ post ∧ pre.length = jn ∧ (pre.filter (fun i => decide (T i = some B))).length = n2 ∧ St w0 S0 wr (WL 704 c bw B mb2 (Wp T B pre) (Tp T B pre post) ((X ++ [LisR 3 1 (.slice (some ⟨g, off, none⟩) n cap) n (iv ls)]) ++ [LisR 3 1 (.slice A2 n2 cap2) n2 (iv (pre.filter (fun i => decide (T i = some B))))]))) (fun _ y _ => 1000 - (intOf y).toNat)
    case atStart => exact ⟨none, 0, 0, [], ls, _, 0, rfl, rfl, rfl, rfl, rfl, by rw [wp_nil]; exact S6.out⟩
    case round =>
    clear S6
    obtain ⟨A2, n2, cap2, pre, post, mb2, jn, rfl, rfl, hsp, hjn, hn2, sr2⟩ := hrel
    have j0 : (0 : Int) ≤ (jn : Int) := by omega
    have hnl := HLL.out
    rw [hsp, List.length_append, hjn] at hnl
    have hn2j : n2 ≤ jn := by rw [← hn2, ← hjn]; exact List.length_filter_le _ _
    cases post with
    | nil =>
      have hjn' : jn = n := by simpa using hnl
      have d1 : decide ((jn : Int) < (n : Int)) = false := decide_eq_false (by omega)
      have d1' : decide (jn < n) = false := decide_eq_false (by omega)
      rw [List.append_nil] at hsp
      subst hsp
      have hall : Wp T B ls = aft T B := wp_all (fun i hi => (HLS.out i).2 (by
        obtain ⟨q, hq, hp⟩ := spot_ex OK.out.n0 (OK.out.t i B hi).2.2.1 hb
        rw [← HM.out]
        by_cases e : q = s
        · rw [← e, MS_at hp hi]; rfl
        · exfalso
          have h1 := HF.out.ge hi hp
          have h2 := hp.behind (OK.out.t i B hi).2.2.1 (show s < q by omega)
          rw [HB.out] at h2
          have := lw_pos s
          omega)) GE.out
      have s7 := wl_less sr2
      rw [tp_end, hall] at s7
      have S7 := Lib.hid s7
      have HOFF := Lib.hid (show OffP T B (ls.filter (fun i => decide (T i = some B))) from OffP.one GE.out (HRI.out.filter _) fun i => by
        rw [List.mem_filter, HLS.out]
        simp only [decide_eq_true_eq]
        refine ⟨fun h => h.2, fun h => ⟨?_, h⟩⟩
        apply Classical.byContradiction
        intro hno
        have h1 : i ∉ ls := fun h2 => hno ((HLS.out i).1 h2)
        have h2 := congrFun hall i
        unfold Wp at h2
        rw [if_neg (fun h3 => h1 h3.1), h, aft_off h (Int.le_refl _)] at h2
        cases h2)
      have HN2 := Lib.hid hn2
      clear sr2 hall hn2 hnl s7
      go_wp2_with fail
      go_ret
      exact ⟨_, _, _, _, _, rfl, HOFF.out, HN2.out, S7.out⟩
    | cons id post =>
      have hjn' : jn < n := by simp at hnl; omega
      have d1 : decide ((jn : Int) < (n : Int)) = true := decide_eq_true (by omega)
      have d1' : decide (jn < n) = true := decide_eq_true hjn'
      have hid : id ∈ ls := by rw [hsp]; simp
      have hio := (HLS.out id).1 hid
      obtain ⟨v, hv⟩ := Option.isSome_iff_exists.1 hio
      obtain ⟨a, ha, hba, -⟩ := MS_inv (by rw [HM.out]; exact hv)
      obtain ⟨x0, x1, a0, a1⟩ := OK.out.t id a ha
      have hge := GE.out id a ha
      have hri := HRI.out
      rw [hsp, List.pairwise_append] at hri
      have hpre : id ∉ pre := fun h => by have := hri.2.2 id h id (by simp); omega
      have hpost : id ∉ post := fun h => by have := (List.pairwise_cons.1 hri.2.1).1 id h; omega
      have lk := when_look1 sr2 (dom_wf x0 x1)
      rw [show Wp T B pre id = some a by unfold Wp; rw [if_neg fun h => hpre h.1, ha]] at lk
      simp only [Option.getD_some] at lk
      have cw := wl_when sr2
      obtain ⟨A', cap', hA, -, -, -, hcc⟩ := sr2.lis_cells (e := 3) (size := 1) (v := .slice (some ⟨g, off, none⟩) n cap) (n := n) (xs := iv ls) (2 + 704 + X.length) (wl_x (by rw [List.append_assoc]; simp))
      obtain ⟨g', off', hA4, hc⟩ := hcc.resolve_left (by omega)
      injection hA with hA1 hA2 hA3
      subst hA1
      injection hA4 with hA4
      injection hA4 with e1 e2
      subst e1 e2
      have ce := hc jn _ (iv_get (show ls[jn]? = some id by rw [hsp, ← hjn]; simp))
      have HSP := Lib.hid (show ls = (pre ++ [id]) ++ post by rw [hsp]; simp)
      have HJN := Lib.hid (show (pre ++ [id]).length = jn + 1 by rw [List.length_append, hjn]; rfl)
      have HN2 := Lib.hid hn2
      have SR2 := Lib.hid sr2
      have HA := Lib.hid ha
      have HPO := Lib.hid hpost
      by_cases hab : a = B
      · subst hab
        have d2 : decide (a < a) = false := decide_eq_false (by omega)
        have MW := Lib.hid (wl_whenn sr2)
        have HFI := Lib.hid (show (pre ++ [id]).filter (fun i => decide (T i = some a)) = pre.filter (fun i => decide (T i = some a)) ++ [id] by rw [List.filter_append]; simp [ha])
        clear hri hid hio hv hba hge hpre hpost sr2 ha hsp hjn hn2 hcc hc hnl hA3 hA2
        go_wp2_with (first
          | (at_delete; refine wpList_mapN_del rfl _ _ 79 3 rfl 22 Try.underlying3 Try.underlying79 bw (WV (Wp T a pre)) rfl MW.out id x0 x1 rfl ?_; intro w6 hm6 hg6; have s6 := wl_when_turn (v := none) SR2.out hm6 hg6; rw [wp_go HA.out, tp_go HA.out HPO.out] at s6; have s7 := s6.alloc (.cells #[.int .i64 id] 3); have hl7 := wl_last s7; have hr7 := rds_box w6 3 (.int .i64 id); have S7 := Lib.hid s7; have HL7 := Lib.hid hl7; have RB := Lib.hid hr7; clear hm6 hg6 s6 s7 hl7 hr7)
          | (at_builtin; refine wpList_lis rfl (.tmp 72) (.tmp 74) 75 rfl 3 iI (.int .i64 0) 1 8 Try.underlying75 hiI hzI hsI hbI rfl (by decide) _ _ _ rfl HL7.out _ 1 1 [.int .i64 id] rfl RB.out (by simp [Value.oneCell']) (by unfold maxLen; omega) (by omega) ?_; intro D cD w8 hl hg hat; have t8 := wl_lput S7.out hl hg hat; rw [show iv (pre.filter (fun i => decide (T i = some a))) ++ [.int .i64 id] = iv ((pre ++ [id]).filter (fun i => decide (T i = some a))) by rw [HFI.out, iv_app]; rfl] at t8; have S8 := Lib.hid t8; clear hl hg hat t8)
          | fail)
        go_roundw
        case rel => exact ⟨D, n2 + 1, cD, pre ++ [id], post, mb2, jn + 1, rfl, by go_num, HSP.out, HJN.out, by rw [HFI.out, List.length_append, HN2.out]; rfl, S8.out⟩
        case measure => simp [intOf]; omega
      · have d2 : decide (B < a) = true := decide_eq_true (by omega)
        have HAB := Lib.hid hab
        have HFI := Lib.hid (show (pre ++ [id]).filter (fun i => decide (T i = some B)) = pre.filter (fun i => decide (T i = some B)) by
          rw [List.filter_append]
          simp [ha, hab])
        have LC := Lib.hid (lay_c sr2 B0 (show B < a by omega) a1 x0 x1 tp_id)
        clear hri hid hio hv hba hge hpre hpost sr2 ha hsp hjn hn2 hcc hc hnl hA3 hA2 hab
        go_wp2_with fail
        refine LC.out.mono ?_
        rintro e w6 ⟨rfl, mb6, s6⟩
        rw [wp_lay HA.out HAB.out, tp_lay HA.out HAB.out HPO.out] at s6
        have S6 := Lib.hid s6
        clear s6 LC
        go_wp2_with fail
        go_roundw
        case rel => exact ⟨A2, n2, cap2, pre ++ [id], post, mb6, jn + 1, rfl, by go_num, HSP.out, HJN.out, by rw [HFI.out]; exact HN2.out, by rw [HFI.out]; exact S6.out⟩
        case measure => simp [intOf]; omega
  · intro x v w1 cn1 hwx hlx hat hit1 hlt hg1 hs1 hen
    obtain ⟨a, ha, hba, rfl⟩ := MS_inv (by rw [HM.out]; exact hat)
    obtain ⟨x0, x1, -, -⟩ := OK.out.t x a ha
    have hxl : x ∉ l := fun h => by
      have := ((HML.out x hwx).1 h).2
      rw [hlx] at this; cases this
    have s2 := SR.out.it_next _ (by rw [wg_at HS.out, if_pos rfl]) hit1 hg1
    have s3 : St w0 S0 w1 (WG 704 c bw (wv now bw mb) T (fun j => if j = s then ItM Try.prog 3 b r N M (fun j => left j && !(j == x)) cn1 else OptM Try.prog 3 (mb j) (MS T now j)) (X ++ [LisR 3 1 (.slice A n cap) n (iv l)])) := by
      rw [wg_s HS.out] at s2
      rw [wg_like (F' := fun j => if j = s then ItM Try.prog 3 b r N M (fun j => left j && !(j == x)) cn1 else OptM Try.prog 3 (mb j) (MS T now j))] at s2
      · exact s2
      · intro j hj
        by_cases e : j = s
        · rw [if_pos e, if_pos e]
        · rw [if_neg e, if_neg e, if_neg e]
    have s4 := s3.alloc (.cells #[.int .i64 x] 3)
    have HL4 := Lib.hid (wg_last s4)
    have RB := Lib.hid (rds_box w1 3 (.int .i64 x))
    have S4 := Lib.hid s4
    have HXL := Lib.hid hxl
    have HWX := Lib.hid hwx
    have HMX := Lib.hid (show (M x).isSome = true by rw [hat]; rfl)
    have HLT := Lib.hid (show wr.rangeLeft b r = cn ∧ cn1 < cn from ⟨HIT.out.left_eq, hlt⟩)
    clear hxl hlx hat hit1 hlt hg1 hs1 ha hba s2 s3 s4 hwx HIT
    go_wp2_with (at_builtin; refine wpList_lis rfl (.tmp 31) (.tmp 33) 75 rfl 3 iI (.int .i64 0) 1 8 Try.underlying75 hiI hzI hsI hbI rfl (by decide) _ _ _ rfl HL4.out _ 1 1 [.int .i64 x] rfl RB.out (by simp [Value.oneCell']) (by unfold maxLen; omega) (by omega) ?_; intro D cD w5 hl hg hat; have t5 := wg_lput S4.out hl hg hat; rw [show iv l ++ [.int .i64 x] = iv (l ++ [x]) from (iv_app l [x]).symm] at t5; have S5 := Lib.hid t5; clear hl hg hat t5)
    go_roundw
    case rel => exact ⟨D, n + 1, cD, l ++ [x], _, cn1, rfl, by rw [List.length_append, HLN.out]; rfl, S5.out, by
        rw [List.nodup_append]
        exact ⟨HND.out, by simp, fun y hy z hz e => by simp at hz; subst hz; subst e; exact HXL.out hy⟩, fun i hi => by
        rw [List.mem_append, HML.out i hi]
        by_cases e : i = x
        · subst e; simp [HMX.out]
        · simp [e], fun i hi => by
        rcases List.mem_append.1 hi with h | h
        · exact HSM.out i h
        · simp at h; subst h; exact ⟨x0, x1⟩⟩
    case measure =>
      rw [HLT.out.1, (S5.out.it_get _ (by rw [wg_at HS.out, if_pos rfl])).left_eq]
      exact HLT.out.2
end
end Go.Proofs.Ythdhfjcgboglfaa
