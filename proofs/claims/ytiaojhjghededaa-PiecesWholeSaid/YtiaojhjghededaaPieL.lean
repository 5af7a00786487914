/- Layer 8: how long a list is. -/
import Derived.Test.YtiaojhjghededaaPieP
namespace Go.Proofs.Ytiaojhjghededaa
open Go.RowKit Go.Shelf
set_option linter.unusedVariables false
set_option maxRecDepth 100000
set_option maxHeartbeats 4000000
attribute [local go_sem] Oper.semAt_some
/-- What a piece counts. -/
def clipP (m : Int) : Int := if (if m < 0 then 0 else m) < 1099511627776 then (if m < 0 then 0 else m) else 1099511627776
theorem clipP_bd (m : Int) : 0 ≤ clipP m ∧ clipP m ≤ 1099511627776 := by unfold clipP; split <;> (try split) <;> (constructor <;> omega)
def sumX (pre : List (Int × Pc)) : Int := pre.foldl (fun s x => s + clipP x.2.m) 0
theorem sumX_snoc (pre : List (Int × Pc)) (x : Int × Pc) : sumX (pre ++ [x]) = sumX pre + clipP x.2.m := by simp [sumX]
theorem sumX_from : ∀ (pre : List (Int × Pc)) (s : Int), 0 ≤ s → s ≤ pre.foldl (fun s x => s + clipP x.2.m) s ∧ pre.foldl (fun s x => s + clipP x.2.m) s ≤ s + 1099511627776 * pre.length
  | [], s, h => ⟨Int.le_refl _, by simp⟩
  | x :: l, s, h => by
    have := clipP_bd x.2.m
    have ih := sumX_from l (s + clipP x.2.m) (by omega)
    rw [List.foldl_cons, List.length_cons]
    omega
theorem sumX_bd (pre : List (Int × Pc)) : 0 ≤ sumX pre ∧ sumX pre ≤ 1099511627776 * pre.length := by
  have := sumX_from pre 0 (Int.le_refl _)
  unfold sumX
  omega
def lenP (ps : List Pc) : Int := sumX (comeP ps ps.length)
theorem len_o (A : Option Addr) (cap : Nat) (ps : List Pc) (w : World) (hlen : ps.length ≤ 1000) (hwf : ∀ p ∈ ps, p.wf) (hR : RdP w A ps) :
    Calls Try.prog 12 #[.slice A ps.length cap] w fun e w' => e = .returned (.int .i64 (lenP ps)) ∧ Below w.heap.size w w' := by
  refine (callsIn_wide (n := 6)).1 ?_
  refine callsIn_of_wp_marks Try.func12 rfl trivial ?_ rfl
  simp only [Try.ntmps12, List.size_toArray, List.length_cons, List.length_nil, Nat.reduceAdd, Nat.reduceSub, Array.replicate_succ, Array.replicate_zero, List.push_toArray, List.append_toArray, List.nil_append, List.cons_append]
  gi_wp2_with (refine ⟨trivial, ?_⟩; gi_at_call 26; refine (callsIn_wide.2 (parts_o _ _ _ _)).mono ?_; rintro e w' ⟨rfl, rfl⟩)
  have bN := (Boxed.new w 3 (.int .i64 0)).alloc (.cells #[.slice A ps.length cap] 22)
  have bL := Boxed.new (w.alloc (.cells #[.int .i64 0] 3)) 22 (.slice A ps.length cap)
  simp only [World.size_alloc] at bL
  have hB0 : Below w.heap.size w ((w.alloc (.cells #[.int .i64 0] 3)).alloc (.cells #[.slice A ps.length cap] 22)) := ((Below.refl _ w).alloc (Nat.le_refl _) _).alloc (by simp) _
  have hsz : ((w.alloc (.cells #[.int .i64 0] 3)).alloc (.cells #[.slice A ps.length cap] 22)).heap.size = w.heap.size + 2 := by simp
  obtain ⟨W0, hW0⟩ : ∃ W0, (w.alloc (.cells #[.int .i64 0] 3)).alloc (.cells #[.slice A ps.length cap] 22) = W0 := ⟨_, rfl⟩
  rw [hW0] at bN bL hB0 hsz ⊢
  clear hW0
  have hM : 0 ≤ 1099511627776 * (ps.length : Int) ∧ 1099511627776 * (ps.length : Int) ≤ 1099511627776000 := by omega
  refine wpIn_rangeFunc_ownH rfl (by omega) (gf := 37) (lb := #[.pointer (some ⟨w.heap.size + 1, 0, none⟩)]) rfl trivial (enters_of Try.func37 (by kernel_rfl) rfl)
    (parts_stops Fence.wide 5 trivial rfl (by omega) (w.heap.size + 1) cap A ps (by omega) hwf (rowK A w.heap.size) (rowK_of hR) W0 (fun b hb => by have := hb.2; omega) (by omega) bL.cell (hR.on hB0)) KpB.trans (fun W l o o' hl ho hc _ => KpB.put (B := w.heap.size) (fun b hb => hb.2) W l o o' (by omega) ho hc) (Below.refl _ _) (fun _ => rfl)
    (fun pre W => Boxed W w.heap.size 3 (.int .i64 (sumX pre)) ∧ Below w.heap.size w W)
    (fun _ _ _ => False)
    (OwnFrom.and (Own.from (boxed_own _ _ _) _) (ownFrom_below (Nat.le_refl _) (by omega)))
    (fun _ _ _ _ _ hs _ _ => hs)
    ⟨bN, hB0⟩
    (fun x a' W => ∃ Bx, (∃ c0 c1 c2, W.heap[Bx]? = some (.cells #[c0, c1, c2, .int .i64 x.2.m] 42 (0, 0))) ∧ a' = { tmps := #[.slice A ps.length cap, undef, .int .i64 0, .pointer (some ⟨w.heap.size, 0, none⟩), undef, .pointer (some ⟨Bx, 0, none⟩), .slice A ps.length cap, .func (.func 37) #[] #[.pointer (some ⟨w.heap.size + 1, 0, none⟩)], .int .i64 x.1, .agg #[.int .i64 x.2.s, .int .u64 x.2.g, .int .i64 x.2.f, .int .i64 x.2.m], undef, undef, undef, undef, undef, undef, undef], defers := [] })
    (fun x a' _ X Y row hs hg hr => by
      obtain ⟨Bx, ⟨c0, c1, c2, h2⟩, h3⟩ := hs
      refine ⟨Bx, ⟨c0, c1, c2, ?_⟩, h3⟩
      rw [hg.block Bx (Array.getElem?_eq_some_iff.1 h2).1 (fun e => ?_)]
      · exact h2
      · obtain ⟨_, o, ho, hc⟩ := hr Bx e.symm
        rw [h2] at ho
        injection ho with ho
        subst ho
        cases hc)
    ?assign ?body ?done ?stop
  case assign =>
    rintro l pre x W K ⟨bN1, hB1⟩ hK
    unfold encP
    gi_wp2
    exact hK _ _ ((KeepsOthers.alloc _ _).from _) (KpB.below ((Below.refl _ W).alloc (Nat.le_refl _) _) (fun b hb => Nat.lt_of_lt_of_le hb.2 hB1.size)) ⟨bN1.alloc _, hB1.alloc hB1.size _⟩ ⟨W.heap.size, ⟨_, _, _, World.alloc_heap_new W _⟩, rfl⟩
  case body =>
    rintro l pre x a' W hl ⟨r, hr⟩ ⟨bN1, hB1⟩ ⟨Bx, ⟨c0, c1, c2, hc⟩, rfl⟩ hlt
    have cS := bN1.cell
    have fS := bN1.frozen
    have c3 : W.cell? ⟨Bx, 3, none⟩ = some (.int .i64 x.2.m) := by simp [World.cell?, hc]
    have hs := sumX_bd pre
    have hc2 := clipP_bd x.2.m
    have HS := Lib.hid hs
    clear hs hc2 hc hl hr
    have HG := Lib.hid (fun (V : Int) (hv : V = sumX (pre ++ [x])) => show ownPostG (w.heap.size + 2) (KpB 42 (rowK A w.heap.size)) (fun pre W => Boxed W w.heap.size 3 (.int .i64 (sumX pre)) ∧ Below w.heap.size w W) (fun _ _ _ => False) (pre ++ [x]) W Exit.normal { tmps := #[], defers := [] } (W.setCell ⟨w.heap.size, 0, none⟩ (.int .i64 V)) from
      ⟨(KeepsOthers.setCell _ _ _).from _, KpB.set (show W.heap[w.heap.size]? = _ from bN1) (by decide) (fun h => by have := h.2; omega) _ _, by rw [hv]; exact bN1.set _, hB1.setCell (p := ⟨w.heap.size, 0, none⟩) (Nat.le_refl _) _⟩)
    gi_wp2
    all_goals
      refine HG.out _ ?_
      have hs := HS.out
      rw [sumX_snoc, IntWalk.wrap64_in _ ⟨by omega, by omega⟩]
      unfold clipP
      (repeat' split) <;> omega
  case done =>
    rintro D zs W hD rfl ⟨bN1, hB1⟩ hK
    have cS := bN1.cell
    gi_wp2
    refine ⟨by simp, .inl ⟨_, _, rfl, run_takeDeferred hK, ?_⟩⟩
    exact ⟨_, results_tmp rfl _ _ _, rfl, hB1.trans (belowK_b (w := w) (Nat.le_refl _) W D _ _ (by omega) hK rfl rfl)⟩
  case stop =>
    rintro D c pre W _ _ h _
    exact h.elim
end Go.Proofs.Ytiaojhjghededaa
