/- Layer 4: a wheel's places, one turned; what is next, what is laid, cancelled, told. -/
import Derived.Test.YthdhfjcgboglfaaWhC
namespace Go.Proofs.Ythdhfjcgboglfaa
open Go.RowKit
set_option linter.unusedVariables false
set_option maxRecDepth 100000
set_option maxHeartbeats 2000000
/-- One more timer, or one less. -/
def updT (T : Int → Option Int) (i : Int) (v : Option Int) : Int → Option Int := fun j => if j = i then v else T j
theorem updT_same (T : Int → Option Int) (i : Int) (v : Option Int) : updT T i v i = v := if_pos rfl
theorem WV_upd (T : Int → Option Int) (i : Int) (v : Option Int) : WV (updT T i v) = updI (WV T) i (v.map fun a => .int .u64 a) := by
  funext j; unfold WV updT updI; split <;> rfl
theorem MS_put {T : Int → Option Int} {now i a : Int} {s : Nat} (h : SpS now a s) : MS (updT T i (some a)) now s = updI (MS T now s) i (some (.int .u64 a)) := by
  funext j; unfold MS updT updI
  by_cases e : j = i
  · simp only [if_pos e, if_pos h]
  · simp only [if_neg e]
theorem MS_put_other {T : Int → Option Int} {now i a : Int} {s s' : Nat} (h : SpS now a s) (hi : T i = none) (hs : s' ≠ s) : MS (updT T i (some a)) now s' = MS T now s' := by
  funext j; unfold MS updT
  by_cases e : j = i
  · subst e
    rw [if_pos rfl, hi]
    exact if_neg fun h' => hs (SpS.one h' h)
  · simp only [if_neg e]
theorem MS_del (T : Int → Option Int) (now i : Int) (s : Nat) : MS (updT T i none) now s = updI (MS T now s) i none := by
  funext j; unfold MS updT updI
  by_cases e : j = i
  · simp only [if_pos e]
  · simp only [if_neg e]
theorem MS_del_other {T : Int → Option Int} {now i a : Int} {s s' : Nat} (h : SpS now a s) (hi : T i = some a) (hs : s' ≠ s) : MS (updT T i none) now s' = MS T now s' := by
  funext j; unfold MS updT
  by_cases e : j = i
  · subst e
    rw [if_pos rfl, hi]
    exact (if_neg fun h' => hs (SpS.one h' h)).symm
  · simp only [if_neg e]
theorem MS_at {T : Int → Option Int} {now i a : Int} {s : Nat} (h : SpS now a s) (hi : T i = some a) : MS T now s i = some (.int .u64 a) := by unfold MS; simp only [hi, if_pos h]
theorem MS_inv {T : Int → Option Int} {now i : Int} {s : Nat} {v : Value} (h : MS T now s i = some v) : ∃ a, T i = some a ∧ SpS now a s ∧ v = .int .u64 a := by
  unfold MS at h
  cases hT : T i with
  | none => rw [hT] at h; cases h
  | some a =>
    rw [hT] at h
    dsimp only at h
    split at h
    · rename_i hs; injection h with h; exact ⟨a, rfl, hs, h.symm⟩
    · cases h
/-- All timers have small numbers and lie ahead. -/
structure TOK (now : Int) (T : Int → Option Int) : Prop where
  n0 : 0 ≤ now
  n1 : now < 4611686018427387904
  t : ∀ i a, T i = some a → 0 ≤ i ∧ i < 1000 ∧ now < a ∧ a < 4611686018427387904
def WG (m c bw : Nat) (V : Nat → Value) (W : Int → Option Int) (F : Nat → Res) (X : List Res) : List Res :=
  ([ArrR c 84 706 V, OptM Try.prog 3 (some bw) (WV W)] ++ (List.range m).map F) ++ X
section
variable {w0 w w' : World} {S0 S : Nat → Prop} {L X : List Res} {m c bw s b : Nat} {now at' id : Int} {mb mb' : Nat → Option Nat} {W W' T T' : Int → Option Int} {V V' : Nat → Value} {F F' : Nat → Res}
theorem wg_s {R : Res} (hs : s < m) : (WG m c bw V W F X).set (2 + s) R = WG m c bw V W (fun j => if j = s then R else F j) X := by
  unfold WG
  rw [List.set_append_left _ _ (by simp; omega)]
  congr 1
  exact fam_set [_, _] F R hs
theorem wg_like (h : ∀ j, j < m → F j = F' j) : WG m c bw V W F X = WG m c bw V W F' X := by unfold WG; rw [fam_like h]
theorem wg_len : (WG m c bw V W F X).length = 2 + m + X.length := by unfold WG; simp; omega
/-- A new wheel's parts as they are now. -/
theorem wl_of (h : St w0 S0 w (WG m c bw V W F X)) (hV : ∀ j, j < 706 → wv now bw mb j = V j) (hF : ∀ j, j < m → F j = OptM Try.prog 3 (mb j) (MS T now j)) : St w0 S0 w (WL m c bw now mb W T X) := by
  rw [wg_like hF] at h
  exact h.arr_like 0 rfl hV
def updN (f : Nat → Option Nat) (i : Nat) (x : Option Nat) : Nat → Option Nat := fun j => if j = i then x else f j
theorem wv_upd (hs : s < 704) (o : Option Nat) : ∀ j, j < 706 → wv now bw (updN mb s o) j = if j = 2 + s then .map o else wv now bw mb j := fun j hj => by
  unfold wv updN
  by_cases e0 : j = 0
  · rw [if_pos e0, if_neg (by omega), if_pos e0]
  · by_cases e1 : j = 1
    · rw [if_neg e0, if_pos e1, if_neg (by omega), if_neg e0, if_pos e1]
    · rw [if_neg e0, if_neg e1, if_neg e0, if_neg e1]
      by_cases e2 : j = 2 + s
      · rw [if_pos e2, if_pos (by omega)]
      · rw [if_neg e2, if_neg (by omega)]
theorem wv_now (n' : Int) : ∀ j, j < 706 → wv n' bw mb j = if j = 0 then .int .u64 n' else wv now bw mb j := fun j hj => by
  unfold wv
  by_cases e0 : j = 0
  · rw [if_pos e0, if_pos e0]
  · rw [if_neg e0, if_neg e0, if_neg e0]
/-- A place gets a map. -/
theorem wl_fresh (H : St w0 S0 w (WL m c bw now mb W T X)) (hs : s < m) (hm : m = 704) (hn : mb s = none) : St w0 S0 ((w.alloc (.map #[] 0)).setCell ⟨c, 2 + s, none⟩ (.map (some w.heap.size))) (WL m c bw now (updN mb s (some w.heap.size)) W T X) := by
  have he : ∀ i, MS T now s i = none := by
    have h2 := wl_s (now := now) (c := c) (bw := bw) (mb := mb) (W := W) (T := T) (X := X) hs
    rw [hn] at h2
    exact H.optm_none _ h2
  have h1 := (H.optm_new Try.prog 3).place (q := 2 + s) (by show _ < (WG m c bw (wv now bw mb) W (fun s => OptM Try.prog 3 (mb s) (MS T now s)) X).length; rw [wg_len]; omega)
  have h2 : St w0 S0 (w.alloc (.map #[] 0)) (WG m c bw (wv now bw mb) W (fun j => if j = s then OptM Try.prog 3 (some w.heap.size) (fun _ => none) else OptM Try.prog 3 (mb j) (MS T now j)) X) := by
    rw [← wg_s hs]; exact h1
  have h3 := h2.arr_set 0 rfl (show 2 + s < 706 by omega) (.map (some w.heap.size))
  refine wl_of (V := fun j => if j = 2 + s then .map (some w.heap.size) else wv now bw mb j) h3 (wv_upd (by omega) _) fun j hj => ?_
  unfold updN
  by_cases e : j = s
  · rw [if_pos e, if_pos e, e, funext he]
  · rw [if_neg e, if_neg e]
/-- A timer is laid in its place, which has a map. -/
theorem wl_put (H : St w0 S0 w (WL m c bw now mb W T X)) (hs : s < m) (hb : mb s = some b) (hp : SpS now at' s) (hT : T id = none) (hm : MapN w' Try.prog 3 b (updI (MS T now s) id (some (.int .u64 at')))) (hg : w.grownBy w' (some b)) : St w0 S0 w' (WL m c bw now mb W (updT T id (some at')) X) := by
  have h2 := wl_s (now := now) (c := c) (bw := bw) (mb := mb) (W := W) (T := T) (X := X) hs
  rw [hb] at h2
  have h3 := H.optm_turn _ h2 hm hg
  have h4 : St w0 S0 w' (WG m c bw (wv now bw mb) W (fun j => if j = s then OptM Try.prog 3 (some b) (updI (MS T now s) id (some (.int .u64 at'))) else OptM Try.prog 3 (mb j) (MS T now j)) X) := by
    rw [← wg_s hs]; exact h3
  refine wl_of h4 (fun j hj => rfl) fun j hj => ?_
  by_cases e : j = s
  · rw [if_pos e, e, hb, MS_put hp]
  · rw [if_neg e, MS_put_other hp hT e]
/-- A timer is taken out of its place. -/
theorem wl_del (H : St w0 S0 w (WL m c bw now mb W T X)) (hs : s < m) (hb : mb s = some b) (hp : SpS now at' s) (hT : T id = some at') (hm : MapN w' Try.prog 3 b (updI (MS T now s) id none)) (hg : w.grownBy w' (some b)) : St w0 S0 w' (WL m c bw now mb W (updT T id none) X) := by
  have h2 := wl_s (now := now) (c := c) (bw := bw) (mb := mb) (W := W) (T := T) (X := X) hs
  rw [hb] at h2
  have h3 := H.optm_turn _ h2 hm hg
  have h4 : St w0 S0 w' (WG m c bw (wv now bw mb) W (fun j => if j = s then OptM Try.prog 3 (some b) (updI (MS T now s) id none) else OptM Try.prog 3 (mb j) (MS T now j)) X) := by
    rw [← wg_s hs]; exact h3
  refine wl_of h4 (fun j hj => rfl) fun j hj => ?_
  by_cases e : j = s
  · rw [if_pos e, e, hb, MS_del]
  · rw [if_neg e, MS_del_other hp hT e]
theorem wl_when_turn (H : St w0 S0 w (WL m c bw now mb W T X)) {v : Option Int} (hm : MapN w' Try.prog 3 bw (updI (WV W) id (v.map fun a => .int .u64 a))) (hg : w.grownBy w' (some bw)) : St w0 S0 w' (WL m c bw now mb (updT W id v) T X) := by
  rw [← WV_upd] at hm
  exact H.optm_turn 1 wl_1 hm hg
theorem wl_mapn (H : St w0 S0 w (WL m c bw now mb W T X)) (hs : s < m) (hb : mb s = some b) : MapN w Try.prog 3 b (MS T now s) := by
  have h2 := wl_s (now := now) (c := c) (bw := bw) (mb := mb) (W := W) (T := T) (X := X) hs
  rw [hb] at h2
  exact H.optm _ h2
theorem wl_empty (H : St w0 S0 w (WL m c bw now mb W T X)) (hs : s < m) (hb : mb s = none) : ∀ i, MS T now s i = none := by
  have h2 := wl_s (now := now) (c := c) (bw := bw) (mb := mb) (W := W) (T := T) (X := X) hs
  rw [hb] at h2
  exact H.optm_none _ h2
theorem wl_whenn (H : St w0 S0 w (WL m c bw now mb W T X)) : MapN w Try.prog 3 bw (WV W) := H.optm 1 wl_1
theorem zero_u64 (w : World) : (zeroValue 22).run Try.prog w = .ok (.int .u64 0) w := by kernel_rfl
theorem when_look (H : St w0 S0 w (WL m c bw now mb W T X)) (hi : wfI id) : (Instr.lookup 79 (.map (some bw)) (.int .i64 id) true).run Try.prog w = .ok (.tuple #[.int .u64 ((W id).getD 0), .bool (W id).isSome]) w := by
  have h := (wl_whenn H).mapi.look Try.underlying3 Try.underlying79 (zero_u64 w) hi
  rw [h]
  unfold WV
  cases W id <;> rfl
theorem when_look1 (H : St w0 S0 w (WL m c bw now mb W T X)) (hi : wfI id) : (Instr.lookup 79 (.map (some bw)) (.int .i64 id) false).run Try.prog w = .ok (.int .u64 ((W id).getD 0)) w := by
  have h := (wl_whenn H).mapi.look1 Try.underlying3 Try.underlying79 (zero_u64 w) hi
  rw [h]
  unfold WV
  cases W id <;> rfl
theorem Now_c (H : St w0 S0 w (WL m c bw now mb W T X)) : Calls Try.prog 25 #[.pointer (some ⟨c, 0, none⟩)] w fun e w' => e = .returned (.int .u64 now) ∧ St w0 S0 w' (WL m c bw now mb W T X) := by
  have c0 := wl_now H
  have HH := Lib.hid H
  clear H
  go_enter Try.func25, Try.ntmps25
  go_wp2_with fail
  go_ret
  exact ⟨rfl, HH.out⟩
/-- The first place in which something lies. -/
theorem next_c (H : St w0 S0 w (WL 704 c bw now mb W T X)) :
    Calls Try.prog 36 #[.pointer (some ⟨c, 0, none⟩)] w fun e w' => St w0 S0 w' (WL 704 c bw now mb W T X) ∧
      ((∃ s : Nat, s < 704 ∧ e = .returned (.tuple #[.int .i64 ((s / 64 : Nat) : Int), .int .i64 ((s % 64 : Nat) : Int), .bool true]) ∧ (∃ i, (MS T now s i).isSome = true) ∧ ∀ s', s' < s → ∀ i, MS T now s' i = none) ∨
       (e = .returned (.tuple #[.int .i64 0, .int .i64 0, .bool false]) ∧ ∀ s', s' < 704 → ∀ i, MS T now s' i = none)) := by
  go_enter Try.func36, Try.ntmps36
  go_wp2_with fail
  go_loopw [7] (fun x wr => ∃ l : Nat, l ≤ 11 ∧ x = .int .i64 l ∧ St w0 S0 wr (WL 704 c bw now mb W T X) ∧ ∀ s', s' < l * 64 → ∀ i, MS T now s' i = none) (fun x _ => 11 - (intOf x).toNat)
  case atStart => exact ⟨0, by omega, rfl, H, fun s' h => by omega⟩
  case round =>
    clear H
    obtain ⟨l, hl, rfl, sr, he⟩ := hrel
    by_cases hlt : l < 11
    · have d1 : decide ((l : Int) < 11) = true := decide_eq_true (by omega)
      have l0 : (0 : Int) ≤ (l : Int) := by omega
      have l1 : (l : Int) < 11 := by omega
      have HE := Lib.hid he
      have SR := Lib.hid sr
      clear sr he
      go_wp2_with fail
      have sr := SR.out
      go_loopw [10] (fun x wr => ∃ p : Nat, p ≤ 64 ∧ x = .int .i64 p ∧ St w0 S0 wr (WL 704 c bw now mb W T X) ∧ ∀ s', s' < l * 64 + p → ∀ i, MS T now s' i = none) (fun x _ => 64 - (intOf x).toNat)
      case atStart => exact ⟨0, by omega, rfl, sr, HE.out⟩
      case round =>
        clear sr SR HE
        obtain ⟨p, hp, rfl, sr, he⟩ := hrel
        by_cases hpt : p < 64
        · have d2 : decide ((p : Int) < 64) = true := decide_eq_true (by omega)
          have p0 : (0 : Int) ≤ (p : Int) := by omega
          have p1 : (p : Int) < 64 := by omega
          have hs704 : l * 64 + p < 704 := by omega
          have cs := wl_cell sr hs704
          rw [← Nat.add_assoc] at cs
          have HE := Lib.hid he
          have SR := Lib.hid sr
          cases hb : mb (l * 64 + p) with
          | none =>
            have EM := Lib.hid (wl_empty sr hs704 hb)
            rw [hb] at cs
            clear sr he hb
            go_wp2_with fail
            go_roundw
            case rel => exact ⟨p + 1, by omega, by go_num, SR.out, fun s' h => by
              by_cases e : s' = l * 64 + p
              · rw [e]; exact EM.out
              · exact HE.out s' (by omega)⟩
            case measure => simp [intOf]; omega
          | some b =>
            rw [hb] at cs
            have MN := Lib.hid (wl_mapn sr hs704 hb)
            have ln := fun ty => MN.out.len Try.underlying79 ty
            obtain ⟨q, hq⟩ : ∃ q, cnt (MS T now (l * 64 + p)) = q := ⟨_, rfl⟩
            rw [hq] at ln
            have HQ := Lib.hid hq
            clear sr he hb hq
            by_cases hq0 : q = 0
            · have d3 : decide (0 < (q : Int)) = false := decide_eq_false (by omega)
              have d4 : decide (0 < q) = false := decide_eq_false (by omega)
              go_wp2_with fail
              go_roundw
              case rel => exact ⟨p + 1, by omega, by go_num, SR.out, fun s' h => by
                by_cases e : s' = l * 64 + p
                · rw [e]; exact cnt_zero MN.out.2 (HQ.out.trans hq0)
                · exact HE.out s' (by omega)⟩
              case measure => simp [intOf]; omega
            · have d3 : decide (0 < (q : Int)) = true := decide_eq_true (by omega)
              have d4 : decide (0 < q) = true := decide_eq_true (by omega)
              go_wp2_with fail
              refine bodyPost_ret (v := .tuple #[.int .i64 l, .int .i64 p, .bool true]) ?_ rfl ⟨SR.out, Or.inl ⟨l * 64 + p, hs704, ?_, ?_, HE.out⟩⟩
              · simp [results, go_sem]
              · rw [show (l * 64 + p) / 64 = l by omega, show (l * 64 + p) % 64 = p by omega]
              · apply Classical.byContradiction
                intro hno
                refine hq0 (HQ.out.symm.trans (cnt_pos fun i => ?_))
                cases hi : MS T now (l * 64 + p) i with
                | none => rfl
                | some v => exact absurd ⟨i, by rw [hi]; rfl⟩ hno
        · obtain rfl : p = 64 := by omega
          go_wp2_with fail
          go_roundw
          case rel => exact ⟨l + 1, by omega, by go_num, sr, fun s' h => he s' (by omega)⟩
          case measure => simp [intOf]; omega
    · obtain rfl : l = 11 := by omega
      have SR := Lib.hid sr
      have HE := Lib.hid he
      clear sr he
      go_wp2_with fail
      refine bodyPost_ret (v := .tuple #[.int .i64 0, .int .i64 0, .bool false]) ?_ rfl ⟨SR.out, Or.inr ⟨rfl, HE.out⟩⟩
      simp [results, go_sem]
end
end Go.Proofs.Ythdhfjcgboglfaa
