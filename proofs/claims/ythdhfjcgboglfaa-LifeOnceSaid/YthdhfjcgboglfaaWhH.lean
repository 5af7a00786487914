/- Layer 4: a place is opened. -/
import Derived.Test.YthdhfjcgboglfaaWhG
namespace Go.Proofs.Ythdhfjcgboglfaa
open Go.RowKit
set_option linter.unusedVariables false
set_option maxRecDepth 100000
set_option maxHeartbeats 2000000
/-- The timers that the wheel knows, and those that lie in places, once pre was gone over and post was not. -/
def Wp (T : Int → Option Int) (B : Int) (pre : List Int) : Int → Option Int := fun i => if i ∈ pre ∧ T i = some B then none else T i
def Tp (T : Int → Option Int) (B : Int) (pre post : List Int) : Int → Option Int := fun i => if i ∈ post then none else Wp T B pre i
section
variable {T : Int → Option Int} {B a id : Int} {pre post : List Int}
theorem wp_nil : Wp T B [] = T := by funext i; unfold Wp; simp
theorem wp_lay (h : T id = some a) (ne : a ≠ B) : updT (Wp T B pre) id (some a) = Wp T B (pre ++ [id]) := by
  funext i; unfold updT Wp
  by_cases e : i = id
  · rw [if_pos e, e, h, if_neg]
    rintro ⟨_, h2⟩; injection h2 with h2; exact ne h2
  · rw [if_neg e]; simp [e]
theorem wp_go (h : T id = some B) : updT (Wp T B pre) id none = Wp T B (pre ++ [id]) := by
  funext i; unfold updT Wp
  by_cases e : i = id
  · rw [if_pos e, e, if_pos ⟨by simp, h⟩]
  · rw [if_neg e]; simp [e]
theorem tp_lay (h : T id = some a) (ne : a ≠ B) (hp : id ∉ post) : updT (Tp T B pre (id :: post)) id (some a) = Tp T B (pre ++ [id]) post := by
  funext i; unfold updT Tp
  rw [← wp_lay (pre := pre) h ne]
  unfold updT
  by_cases e : i = id
  · rw [if_pos e, if_pos e, if_neg (by rw [e]; exact hp)]
  · rw [if_neg e, if_neg e]; simp [e]
theorem tp_go (h : T id = some B) (hp : id ∉ post) : Tp T B pre (id :: post) = Tp T B (pre ++ [id]) post := by
  funext i; unfold Tp
  rw [← wp_go (pre := pre) h]
  unfold updT
  by_cases e : i = id
  · rw [if_pos e, if_pos (by simp [e])]; split <;> rfl
  · rw [if_neg e]; simp [e]
theorem tp_end : Tp T B pre [] = Wp T B pre := by funext i; unfold Tp; simp
theorem tp_id : Tp T B pre (id :: post) id = none := by unfold Tp; rw [if_pos (by simp)]
theorem wp_all (hm : ∀ i, T i = some B → i ∈ pre) (ge : ∀ i a, T i = some a → B ≤ a) : Wp T B pre = aft T B := by
  funext i; unfold Wp aft
  cases hT : T i with
  | none => simp
  | some a =>
    have := ge i a hT
    dsimp only
    by_cases e : a = B
    · subst e
      rw [if_pos ⟨hm i hT, rfl⟩, if_pos (Int.le_refl _)]
    · rw [if_neg (by rintro ⟨_, h⟩; injection h with h; exact e h), if_neg (by omega)]
end
section
variable {w0 w w' : World} {S0 S : Nat → Prop} {L X : List Res} {m c bw s b n n' sz : Nat} {now at' id : Int} {mb mb' : Nat → Option Nat} {W W' T T' : Int → Option Int} {V V' : Nat → Value} {F F' : Nat → Res} {e : TypeId} {v v' : Value} {xs xs' : List Value}
theorem last_at {R : Res} : (X ++ [R])[X.length]? = some R := by simp
theorem last_set {R R' : Res} : (X ++ [R]).set X.length R' = X ++ [R'] := by rw [List.set_append_right _ _ (Nat.le_refl _)]; simp
theorem wg_last (H : St w0 S0 w (WG m c bw V W F (X ++ [LisR e sz v n xs]))) : Lis w e sz v n xs := H.lis _ (wg_x last_at)
theorem wg_lput (H : St w0 S0 w (WG m c bw V W F (X ++ [LisR e sz v n xs]))) (hl : Lis w' e sz v' n' xs') (hg : w.grownBy w' v.ownBlock) (hat : v'.ownBlock = v.ownBlock ∨ ∃ g, v'.ownBlock = some g ∧ w.heap.size ≤ g) : St w0 S0 w' (WG m c bw V W F (X ++ [LisR e sz v' n' xs'])) := by
  have h := H.lis_put _ (wg_x last_at) hl hg hat
  rw [wg_xset, last_set] at h
  exact h
theorem wl_last (H : St w0 S0 w (WL m c bw now mb W T (X ++ [LisR e sz v n xs]))) : Lis w e sz v n xs := wg_last H
theorem wl_lput (H : St w0 S0 w (WL m c bw now mb W T (X ++ [LisR e sz v n xs]))) (hl : Lis w' e sz v' n' xs') (hg : w.grownBy w' v.ownBlock) (hat : v'.ownBlock = v.ownBlock ∨ ∃ g, v'.ownBlock = some g ∧ w.heap.size ≤ g) : St w0 S0 w' (WL m c bw now mb W T (X ++ [LisR e sz v' n' xs'])) := wg_lput H hl hg hat
theorem wl_less {R R' : Res} (H : St w0 S0 w (WL m c bw now mb W T ((X ++ [R]) ++ [R']))) : St w0 S0 w (WL m c bw now mb W T (X ++ [R'])) := by
  have h := H.drop (2 + m + X.length) (by unfold WL; simp; omega)
  have e : (WL m c bw now mb W T ((X ++ [R]) ++ [R'])).eraseIdx (2 + m + X.length) = WL m c bw now mb W T (X ++ [R']) := by
    unfold WL
    rw [List.eraseIdx_append_of_length_le (by simp; omega)]
    congr 1
    rw [show 2 + m + X.length - ([ArrR c 84 706 (wv now bw mb), OptM Try.prog 3 (some bw) (WV W)] ++ (List.range m).map (fun s => OptM Try.prog 3 (mb s) (MS T now s))).length = X.length by simp; omega]
    rw [List.append_assoc, List.eraseIdx_append_of_length_le (Nat.le_refl _)]
    simp
  rw [e] at h; exact h
/-- The place that was gone over is given up, and the time goes on to its beginning. -/
theorem wl_open {r n0 cn : Nat} {left : Int → Bool} (H : St w0 S0 w (WG 704 c bw (wv now bw mb) W (fun j => if j = s then ItM Try.prog 3 b r n0 (MS T now s) left cn else OptM Try.prog 3 (mb j) (MS T now j)) X)) (ok : TOK now T) (hs : s < 704) (hf : First T now s) (hT' : ∀ i, T' i = if (MS T now s i).isSome = true then none else T i) :
    St w0 S0 ((w.setCell ⟨c, 2 + s, none⟩ (.map none)).setCell ⟨c, 0, none⟩ (.int .u64 (bgS now s))) (WL 704 c bw (bgS now s) (updN mb s none) W T' X) := by
  have h1 := H.it_drop (M' := fun _ => none) _ (by rw [wg_at hs, if_pos rfl]) (fun _ => rfl)
  rw [wg_s hs] at h1
  have h2 := h1.arr_set 0 rfl (show 2 + s < 706 by omega) (.map none)
  have h3 := h2.arr_set 0 rfl (show 0 < 706 by omega) (.int .u64 (bgS now s))
  refine wl_of (V := fun j => if j = 0 then .int .u64 (bgS now s) else if j = 2 + s then .map none else wv now bw mb j) h3 (fun j hj => ?_) fun j hj => ?_
  · rw [wv_now (now := now) _ j hj, wv_upd hs none j hj]
  · rw [hf.ms ok hT' j]
    unfold updN
    by_cases e : j = s
    · rw [if_pos e, if_pos e, if_pos e]
    · rw [if_neg e, if_neg e, if_neg e, if_neg e]
end
end Go.Proofs.Ythdhfjcgboglfaa
