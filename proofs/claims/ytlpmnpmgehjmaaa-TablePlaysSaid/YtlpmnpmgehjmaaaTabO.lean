/- Layer 2: a table beside other things. -/
import Derived.Test.YtlpmnpmgehjmaaaTabP
import Derived.Test.YtlpmnpmgehjmaaaSep
namespace Go.Proofs.Ytlpmnpmgehjmaaa
open Go.RowKit
set_option linter.unusedVariables false
def TabR (t n : Nat) (gen : Nat → Int) (st : Nat → Option Int) : Res := fun w S => ∃ g, Tb w t g n gen st ∧ ∀ b, S b ↔ b = t ∨ b = g
theorem TabR.ok (t n : Nat) (gen : Nat → Int) (st : Nat → Option Int) : Ok (TabR t n gen st) := by
  refine ⟨fun {w S} ⟨g, h, hs⟩ b hb => ?_, fun {w w' S} ⟨g, h, hs⟩ hk => ⟨g, ?_, hs⟩⟩
  · rcases (hs b).1 hb with e | e
    · rw [e]; exact h.blk.lt
    · rw [e]; exact h.glt
  · obtain ⟨arr, hg, hz, ha⟩ := h.row
    exact ⟨h.ne, (hk t ((hs t).2 (Or.inl rfl))).trans h.blk, arr, (hk g ((hs g).2 (Or.inr rfl))).trans hg, hz, ha⟩
section
variable {w0 w : World} {S0 : Nat → Prop} {L : List Res} {t n : Nat} {gen gen' : Nat → Int} {st st' : Nat → Option Int} {s c v f x : Int} {w' : World}
theorem tab_turn {g : Nat} (H : St w0 S0 w L) (i : Nat) (hi : L[i]? = some (TabR t n gen st)) (hT : Tb w t g n gen st) (h' : Tb w' t g n gen' st') (ho : Only g w w') : St w0 S0 w' (L.set i (TabR t n gen' st')) :=
  H.turn hi (TabR.ok _ _ _ _) fun T ⟨g1, h1, hs⟩ => by
    have hg : g1 = g := by
      have a := h1.blk; have b := hT.blk
      unfold Blk at a b; rw [a] at b
      injection b with b; injection b with b _; simpa using b
    subst hg
    exact ⟨T, ⟨g1, h', hs⟩, Did.of_only ho ((hs g1).2 (Or.inr rfl)) fun b hb => Or.inl hb⟩
theorem tab_like (H : St w0 S0 w L) (i : Nat) (hi : L[i]? = some (TabR t n gen st)) (h : ∀ j, j < n → gen' j = gen j ∧ st' j = st j) : St w0 S0 w (L.set i (TabR t n gen' st')) :=
  H.weak i hi (TabR.ok _ _ _ _) fun S ⟨g, hT, hs⟩ => by
    obtain ⟨arr, hg, hz, ha⟩ := hT.row
    exact ⟨g, ⟨hT.ne, hT.blk, arr, hg, hz, fun j hj => by rw [(h j hj).1, (h j hj).2]; exact ha j hj⟩, hs⟩
theorem cnt_all {st : Nat → Option Int} : ∀ {k : Nat}, (∀ j, j < k → (st j).isSome = true) → cnt st k = k
  | 0, _ => rfl
  | k + 1, h => by unfold cnt; rw [cnt_all (fun j hj => h j (by omega)), if_pos (h k (by omega))]
theorem cnt_none {st : Nat → Option Int} : ∀ {k : Nat}, (∀ j, j < k → st j = none) → cnt st k = 0
  | 0, _ => rfl
  | k + 1, h => by unfold cnt; rw [cnt_none (fun j hj => h j (by omega)), h k (by omega)]; rfl
/-- The first k slots hold their numbers. -/
def upto (k : Nat) : Nat → Option Int := fun j => if j < k then some (j : Int) else none
theorem upto_zero : (fun _ => none) = upto 0 := by funext j; simp [upto]
theorem upto_succ (k : Nat) : (fun j => if j = k then some (k : Int) else upto k j) = upto (k + 1) := by
  funext j
  unfold upto
  by_cases e : j = k
  · subst e; simp
  · rw [if_neg e]; by_cases h : j < k
    · rw [if_pos h, if_pos (by omega)]
    · rw [if_neg h, if_neg (by omega)]
theorem New_o (H : St w0 S0 w L) (h0 : 1 ≤ n) (hn : n ≤ 1000) :
    Calls Try.prog 11 #[.int .i64 n] w fun e w' => ∃ t, e = .returned (.tuple #[.pointer (some ⟨t, 0, none⟩), .int .i64 0]) ∧ St w0 S0 w' (L ++ [TabR t n (fun _ => 1) (fun _ => none)]) :=
  (New_ok n w h0 hn).mono fun e w' ⟨t, g, ht, hg, he, hT, hb⟩ => ⟨t, he, H.more hb (Star.one (TabR.ok _ _ _ _) ⟨g, hT, fun b => Iff.rfl⟩) fun b hb => by rcases hb with e | e <;> omega⟩
theorem Put_o (H : St w0 S0 w L) (i : Nat) (hi : L[i]? = some (TabR t n gen st)) (hn : n ≤ 1000) (hR : PutR n gen st x s c f st') :
    Calls Try.prog 13 #[.pointer (some ⟨t, 0, none⟩), .int .i64 x] w fun e w' => e = .returned (.tuple #[.agg #[.int .i64 s, .int .u64 c], .int .i64 f]) ∧ St w0 S0 w' (L.set i (TabR t n gen st')) := by
  obtain ⟨S, g, hT, _⟩ := H.get i hi
  exact (Put_r t g n gen st x s c f st' w hT hn hR).mono fun e w' ⟨he, h', ho⟩ => ⟨he, tab_turn H i hi hT h' ho⟩
theorem Put_o1 (H : St w0 S0 w L) (i : Nat) (hi : L[i]? = some (TabR t n gen st)) (k : Nat) (hn : n ≤ 1000) (hk : k < n) (hs : ∀ j, j < k → ∃ v, st j = some v) (hf : st k = none) :
    Calls Try.prog 13 #[.pointer (some ⟨t, 0, none⟩), .int .i64 x] w fun e w' => e = .returned (.tuple #[.agg #[.int .i64 k, .int .u64 (gen k)], .int .i64 0]) ∧ St w0 S0 w' (L.set i (TabR t n gen (fun j => if j = k then some x else st j))) :=
  Put_o H i hi hn (Or.inl ⟨k, hk, hs, hf, rfl, rfl, rfl, rfl⟩)
theorem Get_o (H : St w0 S0 w L) (i : Nat) (hi : L[i]? = some (TabR t n gen st)) (hn : n ≤ 1000) (hR : GetR n gen st s c v f) :
    Calls Try.prog 15 #[.pointer (some ⟨t, 0, none⟩), .agg #[.int .i64 s, .int .u64 c]] w fun e w' => e = .returned (.tuple #[.int .i64 v, .int .i64 f]) ∧ St w0 S0 w' L := by
  obtain ⟨S, g, hT, _⟩ := H.get i hi
  exact looks (Get_r t g w hT hn hR) H
theorem Set_o (H : St w0 S0 w L) (i : Nat) (hi : L[i]? = some (TabR t n gen st)) (hn : n ≤ 1000) (hR : SetR n gen st s c x f st') :
    Calls Try.prog 17 #[.pointer (some ⟨t, 0, none⟩), .agg #[.int .i64 s, .int .u64 c], .int .i64 x] w fun e w' => e = .returned (.int .i64 f) ∧ St w0 S0 w' (L.set i (TabR t n gen st')) := by
  obtain ⟨S, g, hT, _⟩ := H.get i hi
  exact (Set_r t g w hT hn hR).mono fun e w' ⟨he, h', ho⟩ => ⟨he, tab_turn H i hi hT h' ho⟩
theorem Drop_o (H : St w0 S0 w L) (i : Nat) (hi : L[i]? = some (TabR t n gen st)) (hn : n ≤ 1000) (hg : ∀ i, i < n → 0 ≤ gen i ∧ gen i < 18446744073709551615) (hR : DropR n gen st s c v f gen' st') :
    Calls Try.prog 19 #[.pointer (some ⟨t, 0, none⟩), .agg #[.int .i64 s, .int .u64 c]] w fun e w' => e = .returned (.tuple #[.int .i64 v, .int .i64 f]) ∧ St w0 S0 w' (L.set i (TabR t n gen' st')) := by
  obtain ⟨S, g, hT, _⟩ := H.get i hi
  exact (Drop_r t g w hT hn hg hR).mono fun e w' ⟨he, h', ho⟩ => ⟨he, tab_turn H i hi hT h' ho⟩
theorem Count_o (H : St w0 S0 w L) (i : Nat) (hi : L[i]? = some (TabR t n gen st)) (hn : n ≤ 1000) (k : Nat) (hk : cnt st n = k) :
    Calls Try.prog 24 #[.pointer (some ⟨t, 0, none⟩)] w fun e w' => e = .returned (.int .i64 k) ∧ St w0 S0 w' L := by
  obtain ⟨S, g, hT, _⟩ := H.get i hi
  subst hk
  exact looks (Count_any t g n gen st w hT hn) H
theorem All_o (H : St w0 S0 w L) (i : Nat) (hi : L[i]? = some (TabR t n gen st)) (hn : n ≤ 1000) (k : Nat) (hk : cnt st n = k) :
    Calls Try.prog 23 #[.pointer (some ⟨t, 0, none⟩)] w fun e w' => ∃ A cap, e = .returned (.slice A k cap) ∧ St w0 S0 w' L := by
  obtain ⟨S, g, hT, _⟩ := H.get i hi
  subst hk
  exact (All_any t g n gen st w hT hn).mono fun e w' ⟨A, cap, he, hb⟩ => ⟨A, cap, he, H.stay hb⟩
theorem awake_o (H : St w0 S0 w L) : Calls Try.prog 10 #[] w fun e w' => e = .returned (.bool true) ∧ St w0 S0 w' L := looks (awake_any w) H
end
end Go.Proofs.Ytlpmnpmgehjmaaa
