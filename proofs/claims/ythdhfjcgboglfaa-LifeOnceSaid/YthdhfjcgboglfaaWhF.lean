/- Layer 4: a new wheel; the timers of a place are gone over. -/
import Derived.Test.YthdhfjcgboglfaaWhE
import Derived.WalkMore
namespace Go.Proofs.Ythdhfjcgboglfaa
open Go.RowKit
set_option linter.unusedVariables false
set_option maxRecDepth 100000
set_option maxHeartbeats 2000000
def wZ : Array Value := ((List.range 706).map fun k => if k = 0 then Value.int .u64 0 else .map none).toArray
theorem zero_w (w : World) : (zeroValue 84).run Try.prog w = .ok (.agg wZ) w := by kernel_rfl
theorem YthdhfjcgboglfaaiI : (Try.prog.info? 3).map (fun i => (i.zero, i.size, i.bytes)) = some (some (.int .i64 0), 1, 8) := by kernel_rfl
/-- A map that is gone over: the iterator lies in block r. -/
def ItM (P : Program) (k : TypeId) (b r n : Nat) (M : Int → Option Value) (left : Int → Bool) (cnt : Nat) : Res := fun w S => IterI w P k b r n M left cnt ∧ MapN w P k b M ∧ b ≠ r ∧ ∀ x, S x ↔ (x = b ∨ x = r)
theorem ItM.ok (P : Program) (k : TypeId) (b r n : Nat) (M : Int → Option Value) (left : Int → Bool) (cnt : Nat) : Ok (ItM P k b r n M left cnt) :=
  ⟨fun ⟨h, m, _, hs⟩ x hx => by
    rcases (hs x).1 hx with rfl | rfl
    · exact m.lt
    · exact h.lt,
   fun ⟨h, m, e, hs⟩ hk => ⟨h.keep (hk b ((hs b).2 (Or.inl rfl))) (hk r ((hs r).2 (Or.inr rfl))), m.keep (hk b ((hs b).2 (Or.inl rfl))), e, hs⟩⟩
section
variable {w0 w w' : World} {S0 S : Nat → Prop} {L X : List Res} {P : Program} {k : TypeId} {m c bw s b r n : Nat} {now at' id : Int} {mb mb' : Nat → Option Nat} {W W' T T' : Int → Option Int} {M M' : Int → Option Value} {left left' : Int → Bool} {cnt0 cnt1 : Nat} {V V' : Nat → Value} {F F' : Nat → Res}
theorem St.it_start (h : St w0 S0 w L) (i : Nat) (hi : L[i]? = some (OptM P k (some b) M)) (hit : IterI w' P k b w.heap.size n M left cnt0) (hg : w.grownBy w' none) : St w0 S0 w' (L.set i (ItM P k b w.heap.size n M left cnt0)) :=
  h.turn hi (ItM.ok _ _ _ _ _ _ _ _) fun T ⟨hm, hT⟩ => ⟨fun x => x = b ∨ x = w.heap.size, ⟨hit, hm.keep (hg.block b hm.lt (by simp)), by have := hm.lt; omega, fun x => Iff.rfl⟩,
    ⟨hg.os, hg.tape, hg.output, hg.size, fun j hj hn => hg.block j hj (by simp), fun x hx => by
      rcases hx with rfl | rfl
      · exact Or.inl ((hT _).2 rfl)
      · exact Or.inr (Nat.le_refl _)⟩⟩
theorem St.it_get (h : St w0 S0 w L) (i : Nat) (hi : L[i]? = some (ItM P k b r n M left cnt0)) : IterI w P k b r n M left cnt0 := by obtain ⟨S, hb, _⟩ := h.get i hi; exact hb
theorem St.it_next (h : St w0 S0 w L) (i : Nat) (hi : L[i]? = some (ItM P k b r n M left cnt0)) (hit : IterI w' P k b r n M left' cnt1) (hg : w.grownBy w' (some r)) : St w0 S0 w' (L.set i (ItM P k b r n M left' cnt1)) :=
  h.turn hi (ItM.ok _ _ _ _ _ _ _ _) fun T ⟨_, hm, he, hT⟩ => ⟨T, ⟨hit, hm.keep (hg.block b hm.lt fun e => he (by injection e)), he, hT⟩,
    ⟨hg.os, hg.tape, hg.output, hg.size, fun j hj hn => hg.block j hj fun e => hn ((hT j).2 (Or.inr (by injection e))), fun x hx => Or.inl hx⟩⟩
theorem St.it_drop (h : St w0 S0 w L) (i : Nat) (hi : L[i]? = some (ItM P k b r n M left cnt0)) (hm : ∀ i, M' i = none) : St w0 S0 w (L.set i (OptM P k none M')) :=
  h.turn hi (OptM.ok _ _ _ _) fun T _ => ⟨fun _ => False, ⟨hm, fun x h => h⟩, ⟨rfl, rfl, rfl, Nat.le_refl _, fun _ _ _ => rfl, fun b h => h.elim⟩⟩
theorem wg_x {k : Nat} {R : Res} (hx : X[k]? = some R) : (WG m c bw V W F X)[2 + m + k]? = some R := by
  unfold WG
  rw [List.getElem?_append_right (by simp; omega)]
  have e : 2 + m + k - ([ArrR c 84 706 V, OptM Try.prog 3 (some bw) (WV W)] ++ (List.range m).map F).length = k := by simp; omega
  rw [e]; exact hx
theorem wg_xset {k : Nat} {R : Res} : (WG m c bw V W F X).set (2 + m + k) R = WG m c bw V W F (X.set k R) := by
  unfold WG
  rw [List.set_append_right _ _ (by simp; omega)]
  have e : 2 + m + k - ([ArrR c 84 706 V, OptM Try.prog 3 (some bw) (WV W)] ++ (List.range m).map F).length = k := by simp; omega
  rw [e]
theorem wg_app {N : List Res} : WG m c bw V W F X ++ N = WG m c bw V W F (X ++ N) := by unfold WG; rw [List.append_assoc]
theorem wg_at (hs : s < m) : (WG m c bw V W F X)[2 + s]? = some (F s) := by
  unfold WG
  rw [List.getElem?_append_left (by simp; omega)]
  exact fam_at [_, _] F hs
theorem st_empties (h : St w0 S0 w L) (hM : ∀ s i, MS T now s i = none) : ∀ q, St w0 S0 w (L ++ (List.range q).map fun s => OptM Try.prog 3 none (MS T now s))
  | 0 => by simpa using h
  | q + 1 => by
    rw [List.range_succ, List.map_append, ← List.append_assoc]
    exact (st_empties h hM q).more (Below.refl _ _) (Star.one (S := fun _ => False) (OptM.ok _ _ _ _) ⟨hM q, fun x h => h⟩) (fun b hb => hb.elim)
theorem ms_none (now : Int) (s : Nat) (i : Int) : MS (fun _ => none) now s i = none := rfl
theorem New_c (w : World) : Calls Try.prog 22 #[] w fun e w' => ∃ c bw, e = .returned (.pointer (some ⟨c, 0, none⟩)) ∧ St w None w' (WL 704 c bw 0 (fun _ => none) (fun _ => none) (fun _ => none) []) := by
  have zq := zero_w
  have zs : wZ.size = 706 := by simp [wZ]
  have hmm := @run_makeMap Try.prog
  have h1 := ((St.begin w).optm_new Try.prog 3).box_arr 84 (wZ.setIfInBounds 1 (.map (some w.heap.size))) 706 (wv 0 w.heap.size (fun _ => none)) (by simp [wZ]) (fun i hi => by
    by_cases e : i = 1
    · subst e; simp [wZ, wv]
    · rw [Array.getElem?_setIfInBounds_ne (by omega)]
      have e2 : wZ[i]? = some (if i = 0 then Value.int .u64 0 else .map none) := by simp [wZ, hi]
      rw [e2]; unfold wv; rw [if_neg e])
  rw [show (w.alloc (.map #[] 0)).heap.size = w.heap.size + 1 by simp] at h1
  have h2 := h1.comm (A := [OptM Try.prog 3 (some w.heap.size) (fun _ => none)])
  have h3 := st_empties (T := fun _ => none) (now := 0) h2 (ms_none 0) 704
  have H3 := Lib.hid (show St w None _ (WL 704 (w.heap.size + 1) w.heap.size 0 (fun _ => none) (fun _ => none) (fun _ => none) []) by unfold WL; rw [List.append_nil]; exact h3)
  clear h1 h2 h3
  go_enter Try.func22, Try.ntmps22
  go_wp2_with fail
  go_ret
  exact ⟨_, rfl, _, H3.out⟩
theorem New_o (H : St w0 S0 w X) : Calls Try.prog 22 #[] w fun e w' => ∃ c bw, e = .returned (.pointer (some ⟨c, 0, none⟩)) ∧ St w0 S0 w' (WL 704 c bw 0 (fun _ => none) (fun _ => none) (fun _ => none) X) :=
  (New_c w).mono fun e w' ⟨c, bw, he, s⟩ => ⟨c, bw, he, by
    have j := (H.join s).comm
    rw [wl_app] at j
    exact j⟩
end
end Go.Proofs.Ythdhfjcgboglfaa
