/- RpP: RpA RpB RpC in a namespace of their own. Printed by bin/nsgen.py. -/
import Derived.Test.YtdjhpdacglojaaaGreatPoA
import Derived.Test.YtdjhpdacglojaaaGreatFill
namespace Go.Proofs.YtdjhpdacglojaaaGreat
open Go.RowKit
namespace po
section
set_option linter.unusedVariables false
set_option maxRecDepth 100000
set_option maxHeartbeats 800000
/-- A list of n values by their places. -/
def rng (n : Nat) (f : Nat → Value) : List Value := (List.range n).map f
theorem rng_len (n : Nat) (f : Nat → Value) : (rng n f).length = n := by simp [rng]
theorem rng_at {n i : Nat} (f : Nat → Value) (h : i < n) : (rng n f)[i]? = some (f i) := by simp [rng, h]
theorem rng_like {n : Nat} {f g : Nat → Value} (h : ∀ i, i < n → f i = g i) : rng n f = rng n g := List.map_congr_left fun i hi => h i (by simpa using hi)
theorem rng_snoc (n : Nat) (f : Nat → Value) : rng (n + 1) f = rng n f ++ [f n] := by simp [rng, List.range_succ]
theorem rng_set {n i : Nat} (f : Nat → Value) (u : Value) (h : i < n) : (rng n f).set i u = rng n (fun j => if j = i then u else f j) := by
  apply List.ext_getElem?
  intro j
  by_cases hj : j < n
  · rw [rng_at _ hj]
    by_cases e : j = i
    · subst e; rw [List.getElem?_set_self (by rw [rng_len]; exact h), if_pos rfl]
    · rw [List.getElem?_set_ne (Ne.symm e), rng_at _ hj, if_neg e]
  · rw [List.getElem?_eq_none (by rw [List.length_set, rng_len]; omega), List.getElem?_eq_none (by rw [rng_len]; omega)]
/-- Where its rows lie. -/
structure RpA where
  G : Option Addr
  O : Option Addr
  F : Option Addr
  B : Option Addr
  gc : Nat
  oc : Nat
  fc : Nat
  bc : Nat
  X : Nat → Option Addr × Nat
def rpV (X : Nat → Option Addr × Nat) (st : Nat → Buf) (i : Nat) : Value := .slice (X i).1 (st i).bs.length (X i).2
def rpG (st : Nat → Buf) (i : Nat) : Value := .int .u64 (st i).gen
def rpO (st : Nat → Buf) (i : Nat) : Value := .int .i64 (st i).owner
def rpF (st : Nat → Buf) (i : Nat) : Value := .int .i64 (st i).refs
def RpL (r : Nat) (a : RpA) (n : Nat) (st : Nat → Buf) : List Res :=
  [BlkR r 69 #[.slice a.G n a.gc, .slice a.O n a.oc, .slice a.F n a.fc, .slice a.B n a.bc],
   LisR 34 1 (.slice a.G n a.gc) n (rng n (rpG st)), LisR 3 1 (.slice a.O n a.oc) n (rng n (rpO st)),
   LisR 3 1 (.slice a.F n a.fc) n (rng n (rpF st)), LisR 62 1 (.slice a.B n a.bc) n (rng n (rpV a.X st))] ++
  (List.range n).map (fun i => LisR 5 1 (rpV a.X st i) (st i).bs.length (bys (st i).bs))
def RPR (r n : Nat) (st : Nat → Buf) : Res := fun w S => ∃ a, Star (RpL r a n st) w S
theorem RPR.ok (r n : Nat) (st : Nat → Buf) : Ok (RPR r n st) :=
  ⟨fun ⟨_, h⟩ b hb => (Star.ok _).lt h b hb, fun ⟨a, h⟩ hk => ⟨a, (Star.ok _).frame h hk⟩⟩
section
variable {w0 w : World} {S S0 : Nat → Prop} {N L : List Res} {r n : Nat} {a : RpA} {st : Nat → Buf} {gb go ob oo fb fo bb bo gc oc fc bc : Nat} {X : Nat → Option Addr × Nat}
theorem rp_len : (RpL r a n st).length = 5 + n := by simp [RpL]; omega
theorem rp_begin (h : RPR r n st w S) (h1 : 1 ≤ n) : ∃ gb go ob oo fb fo bb bo gc oc fc bc X, St w S w (RpL r ⟨some ⟨gb, go, none⟩, some ⟨ob, oo, none⟩, some ⟨fb, fo, none⟩, some ⟨bb, bo, none⟩, gc, oc, fc, bc, X⟩ n st ++ []) := by
  obtain ⟨⟨G, O, F, B, gc, oc, fc, bc, X⟩, h⟩ := h
  have s := St.start h
  obtain ⟨_, _, e1, -, -, -, h1'⟩ := s.lis_cells 1 rfl
  obtain ⟨_, _, e2, -, -, -, h2'⟩ := s.lis_cells 2 rfl
  obtain ⟨_, _, e3, -, -, -, h3'⟩ := s.lis_cells 3 rfl
  obtain ⟨_, _, e4, -, -, -, h4'⟩ := s.lis_cells 4 rfl
  injection e1 with e1 _ _
  injection e2 with e2 _ _
  injection e3 with e3 _ _
  injection e4 with e4 _ _
  obtain ⟨g1, o1, f1, -⟩ := h1'.resolve_left (by omega)
  obtain ⟨g2, o2, f2, -⟩ := h2'.resolve_left (by omega)
  obtain ⟨g3, o3, f3, -⟩ := h3'.resolve_left (by omega)
  obtain ⟨g4, o4, f4, -⟩ := h4'.resolve_left (by omega)
  refine ⟨g1, o1, g2, o2, g3, o3, g4, o4, gc, oc, fc, bc, X, ?_⟩
  rw [← f1, ← f2, ← f3, ← f4]
  rw [List.append_nil]
  dsimp only at e1 e2 e3 e4
  subst e1 e2 e3 e4
  exact s
theorem rp_end (s : St w0 S0 w (RpL r a n st ++ N)) : ∃ S', RPR r n st w S' ∧ Did S0 S' w0 w := by
  have h := s.take (RpL r a n st).length
  rw [List.take_left] at h
  exact h.fin fun S h => ⟨a, h⟩
theorem rp_box (s : St w0 S0 w (RpL r a n st ++ N)) : w.cell? ⟨r, 0, none⟩ = some (.slice a.G n a.gc) ∧ w.cell? ⟨r, 1, none⟩ = some (.slice a.O n a.oc) ∧ w.cell? ⟨r, 2, none⟩ = some (.slice a.F n a.fc) ∧ w.cell? ⟨r, 3, none⟩ = some (.slice a.B n a.bc) := by
  have h := s.blk 0 rfl
  exact ⟨h.cell 0, h.cell 1, h.cell 2, h.cell 3⟩
theorem rp_four (s : St w0 S0 w (RpL r ⟨some ⟨gb, go, none⟩, some ⟨ob, oo, none⟩, some ⟨fb, fo, none⟩, some ⟨bb, bo, none⟩, gc, oc, fc, bc, X⟩ n st ++ N)) {i : Nat} (hi : i < n) :
    w.cell? ⟨gb, go + i, none⟩ = some (.int .u64 (st i).gen) ∧ w.cell? ⟨ob, oo + i, none⟩ = some (.int .i64 (st i).owner) ∧ w.cell? ⟨fb, fo + i, none⟩ = some (.int .i64 (st i).refs) ∧ w.cell? ⟨bb, bo + i, none⟩ = some (.slice (X i).1 (st i).bs.length (X i).2) := by
  have key : ∀ (q : Nat) (e : TypeId) (b o c : Nat) (f : Nat → Value), (RpL r ⟨some ⟨gb, go, none⟩, some ⟨ob, oo, none⟩, some ⟨fb, fo, none⟩, some ⟨bb, bo, none⟩, gc, oc, fc, bc, X⟩ n st ++ N)[q]? = some (LisR e 1 (.slice (some ⟨b, o, none⟩) n c) n (rng n f)) → w.cell? ⟨b, o + i, none⟩ = some (f i) := by
    intro q e b o c f hq
    rcases (s.lis q hq).reads.2 with h | ⟨g', o', ha, hc⟩
    · omega
    · obtain ⟨rfl, rfl⟩ : b = g' ∧ o = o' := by simpa using ha
      exact hc _ _ (rng_at f hi)
  exact ⟨key 1 _ _ _ _ _ rfl, key 2 _ _ _ _ _ rfl, key 3 _ _ _ _ _ rfl, key 4 _ _ _ _ _ rfl⟩
theorem rp_frozen (s : St w0 S0 w (RpL r ⟨some ⟨gb, go, none⟩, some ⟨ob, oo, none⟩, some ⟨fb, fo, none⟩, some ⟨bb, bo, none⟩, gc, oc, fc, bc, X⟩ n st ++ N)) (o : Nat) : w.frozen? ⟨gb, o, none⟩ = false ∧ w.frozen? ⟨ob, o, none⟩ = false ∧ w.frozen? ⟨fb, o, none⟩ = false ∧ w.frozen? ⟨bb, o, none⟩ = false :=
  ⟨(s.lis 1 rfl).frozen o, (s.lis 2 rfl).frozen o, (s.lis 3 rfl).frozen o, (s.lis 4 rfl).frozen o⟩
theorem rp_idx {i : Nat} (h : i < n) : (RpL r a n st ++ N)[5 + i]? = some (LisR 5 1 (rpV a.X st i) (st i).bs.length (bys (st i).bs)) := by
  rw [List.getElem?_append_left (by rw [rp_len]; omega)]
  exact fam_at [_, _, _, _, _] _ h
theorem rp_bs (s : St w0 S0 w (RpL r a n st ++ N)) {i : Nat} (h : i < n) : Lis w 5 1 (.slice (a.X i).1 (st i).bs.length (a.X i).2) (st i).bs.length (bys (st i).bs) := s.lis _ (rp_idx h)
theorem rp_like {st' : Nat → Buf} {a' : RpA} (h : ∀ i, i < n → st i = st' i) (hg : a.G = a'.G ∧ a.O = a'.O ∧ a.F = a'.F ∧ a.B = a'.B ∧ a.gc = a'.gc ∧ a.oc = a'.oc ∧ a.fc = a'.fc ∧ a.bc = a'.bc) (hX : ∀ i, i < n → a.X i = a'.X i) : RpL r a n st = RpL r a' n st' := by
  obtain ⟨h1, h2, h3, h4, h5, h6, h7, h8⟩ := hg
  unfold RpL
  rw [h1, h2, h3, h4, h5, h6, h7, h8, rng_like (f := rpG st) (g := rpG st') (fun i hi => by unfold rpG; rw [h i hi]), rng_like (f := rpO st) (g := rpO st') (fun i hi => by unfold rpO; rw [h i hi]), rng_like (f := rpF st) (g := rpF st') (fun i hi => by unfold rpF; rw [h i hi]),
    rng_like (f := rpV a.X st) (g := rpV a'.X st') (fun i hi => by unfold rpV; rw [h i hi, hX i hi])]
  congr 1
  exact fam_like (R := fun i => LisR 5 1 (rpV a.X st i) (st i).bs.length (bys (st i).bs)) (R' := fun i => LisR 5 1 (rpV a'.X st' i) (st' i).bs.length (bys (st' i).bs)) fun i hi => by unfold rpV; rw [h i hi, hX i hi]
/-- An owner is laid anew. -/
theorem rp_seto (s : St w0 S0 w (RpL r ⟨some ⟨gb, go, none⟩, some ⟨ob, oo, none⟩, some ⟨fb, fo, none⟩, some ⟨bb, bo, none⟩, gc, oc, fc, bc, X⟩ n st ++ N)) {i : Nat} (hi : i < n) (o : Int) :
    St w0 S0 (w.setCell ⟨ob, oo + i, none⟩ (.int .i64 o)) (RpL r ⟨some ⟨gb, go, none⟩, some ⟨ob, oo, none⟩, some ⟨fb, fo, none⟩, some ⟨bb, bo, none⟩, gc, oc, fc, bc, X⟩ n (updB st i { st i with owner := o }) ++ N) := by
  have h := s.lis_set 2 rfl (k := i) (by omega) (.int .i64 o)
  rw [rng_set _ _ hi] at h
  have e : RpL r ⟨some ⟨gb, go, none⟩, some ⟨ob, oo, none⟩, some ⟨fb, fo, none⟩, some ⟨bb, bo, none⟩, gc, oc, fc, bc, X⟩ n (updB st i { st i with owner := o }) = (RpL r ⟨some ⟨gb, go, none⟩, some ⟨ob, oo, none⟩, some ⟨fb, fo, none⟩, some ⟨bb, bo, none⟩, gc, oc, fc, bc, X⟩ n st).set 2 (LisR 3 1 (.slice (some ⟨ob, oo, none⟩) n oc) n (rng n fun j => if j = i then .int .i64 o else rpO st j)) := by
    have hv : ∀ j, j < n → rpV X (updB st i { st i with owner := o }) j = rpV X st j := fun j hj => by unfold rpV; by_cases e : j = i <;> simp [updB, e]
    have hb : ∀ j, (updB st i { st i with owner := o } j).bs = (st j).bs := fun j => by by_cases e : j = i <;> simp [updB, e]
    unfold RpL
    rw [rng_like (f := rpG (updB st i { st i with owner := o })) (g := rpG st) (fun j hj => by unfold rpG; by_cases e : j = i <;> simp [updB, e]), rng_like (f := rpF (updB st i { st i with owner := o })) (g := rpF st) (fun j hj => by unfold rpF; by_cases e : j = i <;> simp [updB, e]),
      rng_like (f := rpO (updB st i { st i with owner := o })) (g := fun j => if j = i then .int .i64 o else rpO st j) (fun j hj => by unfold rpO; by_cases e : j = i <;> simp [updB, e]), rng_like hv,
      fam_like (R := fun j => LisR 5 1 (rpV X (updB st i { st i with owner := o }) j) (updB st i { st i with owner := o } j).bs.length (bys (updB st i { st i with owner := o } j).bs)) (R' := fun j => LisR 5 1 (rpV X st j) (st j).bs.length (bys (st j).bs)) (fun j hj => by rw [hv j hj, hb j])]
    rfl
  rw [e, ← List.set_append_left _ _ (by rw [rp_len]; omega)]
  exact h
theorem rp_setf (s : St w0 S0 w (RpL r ⟨some ⟨gb, go, none⟩, some ⟨ob, oo, none⟩, some ⟨fb, fo, none⟩, some ⟨bb, bo, none⟩, gc, oc, fc, bc, X⟩ n st ++ N)) {i : Nat} (hi : i < n) (o : Int) :
    St w0 S0 (w.setCell ⟨fb, fo + i, none⟩ (.int .i64 o)) (RpL r ⟨some ⟨gb, go, none⟩, some ⟨ob, oo, none⟩, some ⟨fb, fo, none⟩, some ⟨bb, bo, none⟩, gc, oc, fc, bc, X⟩ n (updB st i { st i with refs := o }) ++ N) := by
  have h := s.lis_set 3 rfl (k := i) (by omega) (.int .i64 o)
  rw [rng_set _ _ hi] at h
  have e : RpL r ⟨some ⟨gb, go, none⟩, some ⟨ob, oo, none⟩, some ⟨fb, fo, none⟩, some ⟨bb, bo, none⟩, gc, oc, fc, bc, X⟩ n (updB st i { st i with refs := o }) = (RpL r ⟨some ⟨gb, go, none⟩, some ⟨ob, oo, none⟩, some ⟨fb, fo, none⟩, some ⟨bb, bo, none⟩, gc, oc, fc, bc, X⟩ n st).set 3 (LisR 3 1 (.slice (some ⟨fb, fo, none⟩) n fc) n (rng n fun j => if j = i then .int .i64 o else rpF st j)) := by
    have hv : ∀ j, j < n → rpV X (updB st i { st i with refs := o }) j = rpV X st j := fun j hj => by unfold rpV; by_cases e : j = i <;> simp [updB, e]
    have hb : ∀ j, (updB st i { st i with refs := o } j).bs = (st j).bs := fun j => by by_cases e : j = i <;> simp [updB, e]
    unfold RpL
    rw [rng_like (f := rpG (updB st i { st i with refs := o })) (g := rpG st) (fun j hj => by unfold rpG; by_cases e : j = i <;> simp [updB, e]), rng_like (f := rpO (updB st i { st i with refs := o })) (g := rpO st) (fun j hj => by unfold rpO; by_cases e : j = i <;> simp [updB, e]),
      rng_like (f := rpF (updB st i { st i with refs := o })) (g := fun j => if j = i then .int .i64 o else rpF st j) (fun j hj => by unfold rpF; by_cases e : j = i <;> simp [updB, e]), rng_like hv,
      fam_like (R := fun j => LisR 5 1 (rpV X (updB st i { st i with refs := o }) j) (updB st i { st i with refs := o } j).bs.length (bys (updB st i { st i with refs := o } j).bs)) (R' := fun j => LisR 5 1 (rpV X st j) (st j).bs.length (bys (st j).bs)) (fun j hj => by rw [hv j hj, hb j])]
    rfl
  rw [e, ← List.set_append_left _ _ (by rw [rp_len]; omega)]
  exact h
theorem rp_setg (s : St w0 S0 w (RpL r ⟨some ⟨gb, go, none⟩, some ⟨ob, oo, none⟩, some ⟨fb, fo, none⟩, some ⟨bb, bo, none⟩, gc, oc, fc, bc, X⟩ n st ++ N)) {i : Nat} (hi : i < n) (o : Int) :
    St w0 S0 (w.setCell ⟨gb, go + i, none⟩ (.int .u64 o)) (RpL r ⟨some ⟨gb, go, none⟩, some ⟨ob, oo, none⟩, some ⟨fb, fo, none⟩, some ⟨bb, bo, none⟩, gc, oc, fc, bc, X⟩ n (updB st i { st i with gen := o }) ++ N) := by
  have h := s.lis_set 1 rfl (k := i) (by omega) (.int .u64 o)
  rw [rng_set _ _ hi] at h
  have e : RpL r ⟨some ⟨gb, go, none⟩, some ⟨ob, oo, none⟩, some ⟨fb, fo, none⟩, some ⟨bb, bo, none⟩, gc, oc, fc, bc, X⟩ n (updB st i { st i with gen := o }) = (RpL r ⟨some ⟨gb, go, none⟩, some ⟨ob, oo, none⟩, some ⟨fb, fo, none⟩, some ⟨bb, bo, none⟩, gc, oc, fc, bc, X⟩ n st).set 1 (LisR 34 1 (.slice (some ⟨gb, go, none⟩) n gc) n (rng n fun j => if j = i then .int .u64 o else rpG st j)) := by
    have hv : ∀ j, j < n → rpV X (updB st i { st i with gen := o }) j = rpV X st j := fun j hj => by unfold rpV; by_cases e : j = i <;> simp [updB, e]
    have hb : ∀ j, (updB st i { st i with gen := o } j).bs = (st j).bs := fun j => by by_cases e : j = i <;> simp [updB, e]
    unfold RpL
    rw [rng_like (f := rpF (updB st i { st i with gen := o })) (g := rpF st) (fun j hj => by unfold rpF; by_cases e : j = i <;> simp [updB, e]), rng_like (f := rpO (updB st i { st i with gen := o })) (g := rpO st) (fun j hj => by unfold rpO; by_cases e : j = i <;> simp [updB, e]),
      rng_like (f := rpG (updB st i { st i with gen := o })) (g := fun j => if j = i then .int .u64 o else rpG st j) (fun j hj => by unfold rpG; by_cases e : j = i <;> simp [updB, e]), rng_like hv,
      fam_like (R := fun j => LisR 5 1 (rpV X (updB st i { st i with gen := o }) j) (updB st i { st i with gen := o } j).bs.length (bys (updB st i { st i with gen := o } j).bs)) (R' := fun j => LisR 5 1 (rpV X st j) (st j).bs.length (bys (st j).bs)) (fun j hj => by rw [hv j hj, hb j])]
    rfl
  rw [e, ← List.set_append_left _ _ (by rw [rp_len]; omega)]
  exact h
/-- A buffer's bytes are another row, which was laid last. -/
theorem rp_setb {A : Option Addr} {c : Nat} {xs : List Int} (s : St w0 S0 w (RpL r ⟨some ⟨gb, go, none⟩, some ⟨ob, oo, none⟩, some ⟨fb, fo, none⟩, some ⟨bb, bo, none⟩, gc, oc, fc, bc, X⟩ n st ++ N ++ [LisR 5 1 (.slice A xs.length c) xs.length (bys xs)])) {i : Nat} (hi : i < n) :
    ∃ X', St w0 S0 (w.setCell ⟨bb, bo + i, none⟩ (.slice A xs.length c)) (RpL r ⟨some ⟨gb, go, none⟩, some ⟨ob, oo, none⟩, some ⟨fb, fo, none⟩, some ⟨bb, bo, none⟩, gc, oc, fc, bc, X'⟩ n (updB st i { st i with bs := xs }) ++ N) := by
  refine ⟨fun j => if j = i then (A, c) else X j, ?_⟩
  have hV : ∀ j, rpV (fun j => if j = i then (A, c) else X j) (updB st i { st i with bs := xs }) j = if j = i then .slice A xs.length c else rpV X st j := fun j => by unfold rpV; by_cases e : j = i <;> simp [updB, e]
  rw [List.append_assoc] at s
  have h := s.lis_set 4 rfl (k := i) (by omega) (.slice A xs.length c)
  rw [rng_set _ _ hi, List.set_append_left _ _ (by rw [rp_len]; omega), ← List.append_assoc] at h
  have h2 := h.place (q := 5 + i) (by rw [List.length_append, List.length_set, rp_len]; omega)
  rw [List.set_append_left _ _ (by rw [List.length_set, rp_len]; omega)] at h2
  have e : RpL r ⟨some ⟨gb, go, none⟩, some ⟨ob, oo, none⟩, some ⟨fb, fo, none⟩, some ⟨bb, bo, none⟩, gc, oc, fc, bc, fun j => if j = i then (A, c) else X j⟩ n (updB st i { st i with bs := xs }) =
      ((RpL r ⟨some ⟨gb, go, none⟩, some ⟨ob, oo, none⟩, some ⟨fb, fo, none⟩, some ⟨bb, bo, none⟩, gc, oc, fc, bc, X⟩ n st).set 4 (LisR 62 1 (.slice (some ⟨bb, bo, none⟩) n bc) n (rng n fun j => if j = i then .slice A xs.length c else rpV X st j))).set (5 + i) (LisR 5 1 (.slice A xs.length c) xs.length (bys xs)) := by
    have hb : ∀ j, (updB st i { st i with bs := xs } j).bs = if j = i then xs else (st j).bs := fun j => by by_cases e : j = i <;> simp [updB, e]
    unfold RpL
    rw [rng_like (f := rpG (updB st i { st i with bs := xs })) (g := rpG st) (fun j hj => by unfold rpG; by_cases e : j = i <;> simp [updB, e]), rng_like (f := rpO (updB st i { st i with bs := xs })) (g := rpO st) (fun j hj => by unfold rpO; by_cases e : j = i <;> simp [updB, e]),
      rng_like (f := rpF (updB st i { st i with bs := xs })) (g := rpF st) (fun j hj => by unfold rpF; by_cases e : j = i <;> simp [updB, e]), rng_like (fun j _ => hV j),
      fam_like (R := fun j => LisR 5 1 (rpV (fun j => if j = i then (A, c) else X j) (updB st i { st i with bs := xs }) j) (updB st i { st i with bs := xs } j).bs.length (bys (updB st i { st i with bs := xs } j).bs)) (R' := fun j => if j = i then LisR 5 1 (.slice A xs.length c) xs.length (bys xs) else LisR 5 1 (rpV X st j) (st j).bs.length (bys (st j).bs)) (fun j hj => by
        rw [hV j, hb j]
        by_cases e : j = i
        · rw [if_pos e, if_pos e, if_pos e]
        · rw [if_neg e, if_neg e, if_neg e])]
    exact (fam_set [_, _, _, _, _] _ _ hi).symm
  rw [e]
  exact h2
/-- One box among what else there is. -/
theorem rp_bx (s : St w0 S0 w (RpL r a n st ++ N)) (j : Nat) {g : Nat} {t : TypeId} {cs : Array Value} (h : N[j]? = some (BlkR g t cs)) : Blk w g t cs :=
  s.blk ((RpL r a n st).length + j) (by rw [List.getElem?_append_right (by omega), Nat.add_sub_cancel_left]; exact h)
theorem rp_bx_set (s : St w0 S0 w (RpL r a n st ++ N)) (j : Nat) {g : Nat} {t : TypeId} {cs : Array Value} (h : N[j]? = some (BlkR g t cs)) (k : Nat) (u : Value) : St w0 S0 (w.setCell ⟨g, k, none⟩ u) (RpL r a n st ++ N.set j (BlkR g t (cs.setIfInBounds k u))) := by
  have := s.set_ ((RpL r a n st).length + j) (by rw [List.getElem?_append_right (by omega), Nat.add_sub_cancel_left]; exact h) k u
  rwa [List.set_append_right _ _ (by omega), Nat.add_sub_cancel_left] at this
end
end
section
set_option linter.unusedVariables false
set_option maxRecDepth 100000
set_option maxHeartbeats 3200000
theorem Tryz.infoRpG : (Tryz.prog.info? 34).map (fun i => (i.zero, i.size, i.bytes)) = some (some (.int .u64 0), 1, 8) := by kernel_rfl
theorem Tryz.infoRpI : (Tryz.prog.info? 3).map (fun i => (i.zero, i.size, i.bytes)) = some (some (.int .i64 0), 1, 8) := by kernel_rfl
theorem Tryz.infoRpS : (Tryz.prog.info? 62).map (fun i => (i.zero, i.size, i.bytes)) = some (some (.slice none 0 0), 1, 24) := by kernel_rfl
theorem rds_box_set (w : World) (p : Addr) (u : Value) (e : TypeId) (v : Value) : Rds ((w.setCell p u).alloc (.cells #[v] e)) (some ⟨w.heap.size, 0, none⟩) 1 1 [v] := by
  have h := rds_box (w.setCell p u) e v
  rwa [show (w.setCell p u).heap.size = w.heap.size by simp [World.setCell]] at h
section
variable {w0 w : World} {S S0 : Nat → Prop} {N L : List Res} {A : Option Addr} {n cap r : Nat} {zs : List Nat} {V : Nat → Nat → Value} {Z C : Nat → Int}
/-- One buffer more. -/
theorem rp_snoc {G O F B : Option Addr} {gc oc fc bc g m : Nat} {X : Nat → Option Addr × Nat} (hm : m ≤ 65536)
    (h : St w0 S0 w (([BlkR r 69 #[.slice G (zs.length + 1) gc, .slice O (zs.length + 1) oc, .slice F (zs.length + 1) fc, .slice B (zs.length + 1) bc],
      LisR 34 1 (.slice G (zs.length + 1) gc) (zs.length + 1) (rng zs.length (rpG (fresh zs)) ++ [.int .u64 1]), LisR 3 1 (.slice O (zs.length + 1) oc) (zs.length + 1) (rng zs.length (rpO (fresh zs)) ++ [.int .i64 0]),
      LisR 3 1 (.slice F (zs.length + 1) fc) (zs.length + 1) (rng zs.length (rpF (fresh zs)) ++ [.int .i64 0]), LisR 62 1 (.slice B (zs.length + 1) bc) (zs.length + 1) (rng zs.length (rpV X (fresh zs)) ++ [.slice (some ⟨g, 0, none⟩) m m])] ++
      (List.range zs.length).map (fun i => LisR 5 1 (rpV X (fresh zs) i) (fresh zs i).bs.length (bys (fresh zs i).bs))) ++ [ArrR g 5 m (fun _ => .int .u8 0)])) :
    ∃ X', St w0 S0 w (RpL r ⟨G, O, F, B, gc, oc, fc, bc, X'⟩ (zs ++ [m]).length (fresh (zs ++ [m]))) := by
  refine ⟨fun j => if j = zs.length then (some ⟨g, 0, none⟩, m) else X j, ?_⟩
  have hf := h.fam_snoc (F' := fun i => LisR 5 1 (rpV (fun j => if j = zs.length then (some ⟨g, 0, none⟩, m) else X j) (fresh (zs ++ [m])) i) (fresh (zs ++ [m]) i).bs.length (bys (fresh (zs ++ [m]) i).bs)) (LisR.ok _ _ _ _ _) (fun i hi => by
    have : ¬ i = zs.length := by omega
    unfold rpV
    dsimp only
    rw [fresh_old zs m hi, if_neg this]) (fun S h => by
    unfold rpV
    dsimp only
    rw [fresh_new, if_pos rfl]
    show LisR 5 1 (.slice (some ⟨g, 0, none⟩) (List.replicate m (0 : Int)).length m) (List.replicate m (0 : Int)).length (bys (List.replicate m 0)) w S
    rw [List.length_replicate]
    exact arr_lis_res h (by unfold maxLen; omega) (by simp [bys]) (fun j hj => by simp [bys, hj]))
  have e1 : rng (zs.length + 1) (rpG (fresh (zs ++ [m]))) = rng zs.length (rpG (fresh zs)) ++ [.int .u64 1] := by
    rw [rng_snoc, rng_like (f := rpG (fresh (zs ++ [m]))) (g := rpG (fresh zs)) (fun i hi => by unfold rpG; rw [fresh_old zs m hi])]
    unfold rpG; rw [fresh_new]
  have e2 : rng (zs.length + 1) (rpO (fresh (zs ++ [m]))) = rng zs.length (rpO (fresh zs)) ++ [.int .i64 0] := by
    rw [rng_snoc, rng_like (f := rpO (fresh (zs ++ [m]))) (g := rpO (fresh zs)) (fun i hi => by unfold rpO; rw [fresh_old zs m hi])]
    unfold rpO; rw [fresh_new]
  have e3 : rng (zs.length + 1) (rpF (fresh (zs ++ [m]))) = rng zs.length (rpF (fresh zs)) ++ [.int .i64 0] := by
    rw [rng_snoc, rng_like (f := rpF (fresh (zs ++ [m]))) (g := rpF (fresh zs)) (fun i hi => by unfold rpF; rw [fresh_old zs m hi])]
    unfold rpF; rw [fresh_new]
  have e4 : rng (zs.length + 1) (rpV (fun j => if j = zs.length then (some ⟨g, 0, none⟩, m) else X j) (fresh (zs ++ [m]))) = rng zs.length (rpV X (fresh zs)) ++ [.slice (some ⟨g, 0, none⟩) m m] := by
    rw [rng_snoc, rng_like (f := rpV (fun j => if j = zs.length then (some ⟨g, 0, none⟩, m) else X j) (fresh (zs ++ [m]))) (g := rpV X (fresh zs)) (fun i hi => by
      have : ¬ i = zs.length := by omega
      unfold rpV; dsimp only; rw [fresh_old zs m hi, if_neg this])]
    unfold rpV; dsimp only; rw [fresh_new, if_pos rfl]; simp
  unfold RpL
  rw [show (zs ++ [m]).length = zs.length + 1 by simp]
  dsimp only
  rw [e1, e2, e3, e4]
  exact hf
theorem RNew_c (rd : RdM w A n 2 V) (hV : Cls V n Z C) (hm : mayC n Z C) :
    Calls Tryz.prog 36 #[.slice A n cap] w fun e w' => ∃ r, e = .returned (.pointer (some ⟨r, 0, none⟩)) ∧ St w None w' [RPR r (flatC Z C n).length (fresh (flatC Z C n))] := by
  have hn8 := hm.1
  have hlen := flatC_len hm.2
  obtain ⟨iU, hiU, hzU, hsU, hbU⟩ := info_parts Tryz.infoU8
  obtain ⟨iG, hiG, hzG, hsG, hbG⟩ := info_parts Tryz.infoRpG
  obtain ⟨iI, hiI, hzI, hsI, hbI⟩ := info_parts Tryz.infoRpI
  obtain ⟨iS, hiS, hzS, hsS, hbS⟩ := info_parts Tryz.infoRpS
  have RD := Lib.hid rd
  have HV := Lib.hid hV
  have HM := Lib.hid hm
  have HLN := Lib.hid hlen
  have s2 : St w None _ (RpL w.heap.size ⟨none, none, none, none, 0, 0, 0, 0, fun _ => (none, 0)⟩ ([] : List Nat).length (fresh [])) := (((((St.begin w).box 69 #[.slice none 0 0, .slice none 0 0, .slice none 0 0, .slice none 0 0]).lis_nil 34 1).lis_nil 3 1).lis_nil 3 1).lis_nil 62 1
  clear hm rd hV hlen
  go_enter Tryz.func36, Tryz.ntmps36
  go_wp2_with fail
  generalize w.heap.size = p at *
  go_loopw [4] (fun i wr => ∃ (k : Nat) (a : RpA), k ≤ n ∧ i = .int .i64 k ∧ St w None wr (RpL p a (flatC Z C k).length (fresh (flatC Z C k)))) (fun i _ => n - (intOf i).toNat)
  case atStart => exact ⟨0, _, by omega, rfl, s2⟩
  case round =>
    clear s2
    obtain ⟨k, a, hk, rfl, sr⟩ := hrel
    by_cases hlt : k < n
    · obtain ⟨v0, v1, -, -⟩ := HV.out k hlt
      obtain ⟨o1, o2, o3, o4⟩ := HM.out.2 k hlt
      have o0 : 0 ≤ Z k := by
        have : 0 ≤ prevZ Z k := by
          have : ∀ j, j ≤ k → 0 ≤ prevZ Z j := by
            intro j
            induction j with
            | zero => intro _; exact Int.le_refl _
            | succ j ih => intro hj; have h1 := ih (by omega); have h2 := (HM.out.2 j (by omega)).1; show 0 ≤ Z j; omega
          exact this k (Nat.le_refl _)
        omega
      have hl1 := HLN.out k hk
      have hl2 := HLN.out (k + 1) (by omega)
      have HF := Lib.hid (show flatC Z C (k + 1) = flatC Z C k ++ List.replicate (C k).toNat (Z k).toNat from rfl)
      rw [HF.out] at hl2
      generalize flatC Z C k = zs at *
      obtain ⟨M, hM⟩ := Int.eq_ofNat_of_zero_le o0
      obtain ⟨q, hq⟩ := Int.eq_ofNat_of_zero_le (show 0 ≤ C k by omega)
      rw [hM] at o2 HF hl2
      rw [hq] at o4 HF hl2
      rw [Int.toNat_natCast, Int.toNat_natCast] at HF hl2
      have HC := Lib.hid (show V k 0 = .int .i64 M ∧ V k 1 = .int .i64 q from ⟨by rw [v0, hM], by rw [v1, hq]⟩)
      clear v0 v1 o1 o3 hM hq o0
      have k0 : (0 : Int) ≤ (k : Int) := by omega
      have k1 : (k : Int) < (n : Int) := by omega
      go_wp2_with fail
      go_loopw [5] (fun i wr => ∃ (m : Nat) (a : RpA), m ≤ q ∧ i = .int .i64 m ∧ St w None wr (RpL p a (zs ++ List.replicate m M).length (fresh (zs ++ List.replicate m M)))) (fun i _ => q - (intOf i).toNat)
      case atStart => exact ⟨0, a, by omega, rfl, by simpa using sr⟩
      case round =>
        clear sr
        obtain ⟨m, ⟨G, O, F, B, gc, oc, fc, bc, X⟩, hmq, rfl, sr⟩ := hrel
        obtain ⟨ib, off, rfl, e0, e1⟩ := RD.out.at2 sr.below hlt
        rw [HC.out.1] at e0
        rw [HC.out.2] at e1
        by_cases hl3 : m < q
        · have HR := Lib.hid (show zs ++ List.replicate (m + 1) M = (zs ++ List.replicate m M) ++ [M] by rw [List.append_assoc, ← List.replicate_succ'])
          have hyl : (zs ++ List.replicate m M).length + 1 ≤ 800 := by
            simp at hl2 ⊢
            omega
          generalize zs ++ List.replicate m M = ys at *
          have mk := fun W => run_make_rowN (P := Tryz.prog) 62 5 iU (.int .u8 0) Tryz.underlying62 hiU hzU rfl hsU .i64 .i64 M (by rw [hbU]; omega) (by omega) W
          have p0 : wr.cell? ⟨p, 0, none⟩ = some (.slice G ys.length gc) := (sr.blk 0 rfl).cell 0
          have S1 := Lib.hid (sr.alloc (.cells #[.int .u64 1] 34))
          have R1 := Lib.hid (rds_box wr 34 (.int .u64 1))
          clear sr
          go_wp2_with (first
            | (at_builtin; refine wpList_lis rfl (.tmp 27) (.tmp 28) 66 rfl 34 iG (.int .u64 0) 1 8 Tryz.underlying66 hiG hzG hsG hbG rfl (by decide) _ _ _ rfl (S1.out.lis 1 rfl) _ 1 1 [.int .u64 1] rfl R1.out (by simp [Value.oneCell']) (by unfold maxLen; omega) (by omega) ?_; intro G1 gc1 w1 hl hg hat; have s1 := S1.out.lis_put 1 rfl hl hg hat; have f1 := (s1.blk 0 rfl).frozen 0; have d1 : w1.cell? ⟨p, 0, none⟩ = some (.slice G ys.length gc) := (s1.blk 0 rfl).cell 0; have s1' := s1.set_ 0 rfl 0 (.slice G1 (ys.length + 1) gc1); have q1 : (w1.setCell ⟨p, 0, none⟩ (.slice G1 (ys.length + 1) gc1)).cell? ⟨p, 1, none⟩ = some (.slice O ys.length oc) := (s1'.blk 0 rfl).cell 1; have S2 := Lib.hid (s1'.alloc (.cells #[.int .i64 0] 3)); clear hl hg hat s1 s1')
            | (at_builtin; refine wpList_lis rfl (.tmp 36) (.tmp 37) 35 rfl 3 iI (.int .i64 0) 1 8 Tryz.underlying35 hiI hzI hsI hbI rfl (by decide) _ _ _ rfl (S2.out.lis 2 rfl) _ 1 1 [.int .i64 0] rfl (rds_box_set _ _ _ _ _) (by simp [Value.oneCell']) (by unfold maxLen; omega) (by omega) ?_; intro O1 oc1 w2 hl hg hat; have s1 := S2.out.lis_put 2 rfl hl hg hat; have f1 := (s1.blk 0 rfl).frozen 1; have d1 : w2.cell? ⟨p, 1, none⟩ = some (.slice O ys.length oc) := (s1.blk 0 rfl).cell 1; have s1' := s1.set_ 0 rfl 1 (.slice O1 (ys.length + 1) oc1); have q1 : (w2.setCell ⟨p, 1, none⟩ (.slice O1 (ys.length + 1) oc1)).cell? ⟨p, 2, none⟩ = some (.slice F ys.length fc) := (s1'.blk 0 rfl).cell 2; have S3 := Lib.hid (s1'.alloc (.cells #[.int .i64 0] 3)); clear hl hg hat s1 s1' S2)
            | (at_builtin; refine wpList_lis rfl (.tmp 45) (.tmp 46) 35 rfl 3 iI (.int .i64 0) 1 8 Tryz.underlying35 hiI hzI hsI hbI rfl (by decide) _ _ _ rfl (S3.out.lis 3 rfl) _ 1 1 [.int .i64 0] rfl (rds_box_set _ _ _ _ _) (by simp [Value.oneCell']) (by unfold maxLen; omega) (by omega) ?_; intro F1 fc1 w3 hl hg hat; have s1 := S3.out.lis_put 3 rfl hl hg hat; have f1 := (s1.blk 0 rfl).frozen 2; have d1 : w3.cell? ⟨p, 2, none⟩ = some (.slice F ys.length fc) := (s1.blk 0 rfl).cell 2; have s1' := s1.set_ 0 rfl 2 (.slice F1 (ys.length + 1) fc1); obtain ⟨w4, hw4⟩ : ∃ w4, w3.setCell ⟨p, 2, none⟩ (.slice F1 (ys.length + 1) fc1) = w4 := ⟨_, rfl⟩; clear hl hg hat s1)
            | fail)
          rw [hw4] at s1'
          clear hw4 e0 e1 p0
          have p0 : w4.cell? ⟨p, 3, none⟩ = some (.slice B ys.length bc) := (s1'.blk 0 rfl).cell 3
          obtain ⟨ib', off', hA', e0, e1⟩ := RD.out.at2 s1'.below hlt
          injection hA' with hA'
          injection hA' with h1' h2'
          subst h1' h2'
          rw [HC.out.1] at e0
          have S4 := Lib.hid (((s1'.box_arr 5 (madeCells #[.int .u8 0] M) M (fun _ => .int .u8 0) (by simp [madeCells]) (fun i hi => by simp [madeCells, hi, Nat.mod_one])).alloc (.cells #[.slice (some ⟨w4.heap.size, 0, none⟩) M M] 62)).drew)
          have R4 := Lib.hid (show Rds ((w4.alloc (.cells (madeCells #[.int .u8 0] M) 5)).alloc (.cells #[.slice (some ⟨w4.heap.size, 0, none⟩) M M] 62)).drew (some ⟨w4.heap.size + 1, 0, none⟩) 1 1 [.slice (some ⟨w4.heap.size, 0, none⟩) M M] by
            have hb := rds_box (w4.alloc (.cells (madeCells #[.int .u8 0] M) 5)) 62 (.slice (some ⟨w4.heap.size, 0, none⟩) M M)
            rw [show (w4.alloc (.cells (madeCells #[.int .u8 0] M) 5)).heap.size = w4.heap.size + 1 by simp] at hb
            exact hb)
          have p1 := cell_alloc p0 (.cells (madeCells #[.int .u8 0] M) 5)
          have p2 := cell_alloc p1 (.cells #[.slice (some ⟨w4.heap.size, 0, none⟩) M M] 62)
          have e2 := cell_alloc e0 (.cells (madeCells #[.int .u8 0] M) 5)
          have e3 := cell_alloc e2 (.cells #[.slice (some ⟨w4.heap.size, 0, none⟩) M M] 62)
          clear s1' S1 S3 R1 e1
          go_wp2_with fail
          go_region_law (refine step_lis (by rfl) _ _ _ (by rfl) 62 iS (.slice none 0 0) 1 24 Tryz.underlying67 hiS hzS hsS hbS (by rfl) (by omega) (.slice B ys.length bc) ys.length (rng ys.length (rpV X (fresh ys))) (by rfl) (S4.out.lis 4 rfl) _ 1 1 [.slice (some ⟨w4.heap.size, 0, none⟩) M M] (by rfl) R4.out (by simp [Value.oneCell']) (by unfold maxLen; omega) (by omega) ?_; intro B5 c5 w5 hl hg hat; have s5 := S4.out.lis_put 4 rfl hl hg hat; have f5 := (s5.blk 0 rfl).frozen 3; have q5 : w5.cell? ⟨p, 3, none⟩ = some (.slice B ys.length bc) := (s5.blk 0 rfl).cell 3; have S5 := Lib.hid s5; clear s5 hl hg hat)
          all_goals
            obtain ⟨X', x6⟩ := rp_snoc (by omega) (S5.out.set_ 0 rfl 3 (.slice B5 (ys.length + 1) c5))
            have X6 := Lib.hid x6
            clear S5 x6
            go_wp2_with fail
            go_roundw
            case rel => exact ⟨m + 1, _, by omega, by go_num, by rw [HR.out]; exact X6.out⟩
            case measure => simp [intOf]; omega
        · obtain rfl : m = q := by omega
          have s7 := Lib.hid sr
          rw [← HF.out] at s7
          clear sr
          go_wp2_with fail
          go_roundw
          case rel => exact ⟨k + 1, _, by omega, by go_num, s7.out⟩
          case measure => simp [intOf]; omega
    · obtain rfl : k = n := by omega
      go_wp2_with fail
      go_ret
      exact ⟨p, rfl, (sr.fold (A := []) (R := RPR p (flatC Z C k).length (fresh (flatC Z C k))) (RPR.ok _ _ _) fun S h => ⟨a, h⟩)⟩
theorem RNew_o (H : St w0 S0 w L) (rd : RdM w A n 2 V) (hV : Cls V n Z C) (hm : mayC n Z C) :
    Calls Tryz.prog 36 #[.slice A n cap] w fun e w' => ∃ r, e = .returned (.pointer (some ⟨r, 0, none⟩)) ∧ St w0 S0 w' (L ++ [RPR r (flatC Z C n).length (fresh (flatC Z C n))]) :=
  (RNew_c rd hV hm).mono fun e w' ⟨r, he, hs⟩ => ⟨r, he, H.join hs⟩
end
end
section
set_option linter.unusedVariables false
set_option maxRecDepth 100000
set_option maxHeartbeats 1600000
section
variable {w0 w : World} {S S0 : Nat → Prop} {N L : List Res} {r n : Nat} {st : Nat → Buf} {G : Int}
theorem updB3 (st : Nat → Buf) (k : Nat) (a b c : Buf) : updB (updB (updB st k a) k b) k c = updB st k c := by
  funext j
  by_cases e : j = k <;> simp [updB, e]
/-- A buffer that was got. -/
theorem rp_got {gb go ob oo fb fo bb bo gc oc fc bc : Nat} {X : Nat → Option Addr × Nat} (s : St w0 S0 w (RpL r ⟨some ⟨gb, go, none⟩, some ⟨ob, oo, none⟩, some ⟨fb, fo, none⟩, some ⟨bb, bo, none⟩, gc, oc, fc, bc, X⟩ n st ++ N)) {i : Nat} (hi : i < n) (hl : (st i).bs.length ≤ 65536) {q : Nat} (hq : w.heap.size = q) :
    ∃ X', St w0 S0 ((w.alloc (.cells (madeCells #[.int .u8 0] (st i).bs.length) 5)).setCell ⟨bb, bo + i, none⟩ (.slice (some ⟨q, 0, none⟩) (st i).bs.length (st i).bs.length)) (RpL r ⟨some ⟨gb, go, none⟩, some ⟨ob, oo, none⟩, some ⟨fb, fo, none⟩, some ⟨bb, bo, none⟩, gc, oc, fc, bc, X'⟩ n (updB st i { st i with bs := List.replicate (st i).bs.length 0 }) ++ N) := by
  subst hq
  have s1 := s.lis_new 5 1 (st i).bs.length (madeCells #[.int .u8 0] (st i).bs.length) (by simp [madeCells]) (by unfold maxLen; omega)
  rw [show (madeCells #[.int .u8 0] (st i).bs.length).toList = bys (List.replicate (st i).bs.length 0) from by
    apply List.ext_getElem?
    intro j
    by_cases hj : j < (st i).bs.length
    · simp [madeCells, bys, hj, Nat.mod_one]
    · rw [List.getElem?_eq_none (by simp [madeCells]; omega), List.getElem?_eq_none (by simp [bys]; omega)]] at s1
  have h := rp_setb (xs := List.replicate (st i).bs.length 0) (A := some ⟨w.heap.size, 0, none⟩) (c := (st i).bs.length) (by rw [List.length_replicate]; exact s1) hi
  rwa [List.length_replicate] at h
theorem RGet_c (ok : POK n st G) {z x g c : Int} {st' : Nat → Buf} (h : GetP n st z x g c st') : ∀ w S, RPR r n st w S →
    Calls Tryz.prog 38 #[.pointer (some ⟨r, 0, none⟩), .int .i64 z] w fun e w' => e = .returned (.tuple #[.agg #[.int .i64 x, .int .u64 g], .int .i64 c]) ∧ ∃ S', RPR r n st' w' S' ∧ Did S S' w w' := by
  intro w S hp
  have h1 := ok.n1
  have h8 := ok.n2
  obtain ⟨gb, go, ob, oo, fb, fo, bb, bo, gc, oc, fc, bc, X, s⟩ := rp_begin hp h1
  have s1 := s.box 39 #[.int .i64 0, .int .u64 0]
  rw [List.append_assoc] at s1
  obtain ⟨c0, c1, c2, c3⟩ := rp_box s1
  obtain ⟨n', rfl⟩ : ∃ n', n = n' + 1 := ⟨n - 1, by omega⟩
  unfold GetP at h
  rw [show n' + 1 - 1 = n' by omega] at h
  have hlen := (ok.b n' (by omega)).2.2.2
  obtain ⟨-, -, -, e3⟩ := rp_four s1 (i := n') (by omega)
  have wn : IntKind.i64.wrap (((n' + 1 : Nat) : Int) - 1) = (n' : Int) := by
    rw [IntWalk.i64_in _ ⟨by omega, by omega⟩]; omega
  have n0 : (0 : Int) ≤ (n' : Int) := by omega
  have n1 : (n' : Int) < ((n' + 1 : Nat) : Int) := by omega
  obtain ⟨b0, b1⟩ := (Blk.new w 39 #[.int .i64 0, .int .u64 0]).two
  have fb0 := (Blk.new w 39 #[.int .i64 0, .int .u64 0]).frozen 0
  have fb1 := (Blk.new w 39 #[.int .i64 0, .int .u64 0]).frozen 1
  have SD := Lib.hid (fun q => rp_bx_set (rp_bx_set (s1.drewN q) 0 rfl 0 (.int .i64 0)) 0 rfl 1 (.int .u64 0))
  have S1 := Lib.hid s1
  have mk := fun M (hM : M ≤ 65536) W => run_make_rowN (P := Tryz.prog) 62 5 (info_parts Tryz.infoU8).choose (.int .u8 0) Tryz.underlying62 (info_parts Tryz.infoU8).choose_spec.1 (info_parts Tryz.infoU8).choose_spec.2.1 rfl (info_parts Tryz.infoU8).choose_spec.2.2.1 .i64 .i64 M (by rw [(info_parts Tryz.infoU8).choose_spec.2.2.2]; omega) (by omega) W
  have MK := Lib.hid mk
  clear s1 s mk
  generalize hle : (st n').bs.length = le at *
  by_cases hz : 1 ≤ z ∧ z ≤ (le : Int)
  · have d1 : decide (z < 1) = false := decide_eq_false (by omega)
    have d2 : decide ((le : Int) < z) = false := decide_eq_false (by omega)
    go_enter Tryz.func38, Tryz.ntmps38
    go_wp2_with fail
    go_quiet (fail)
    go_wp2_with fail
    go_loopw [6] (fun i wr => ∃ k : Nat, k ≤ n' + 1 ∧ i = .int .i64 k ∧ (∀ j, j < k → ¬ fit st z j) ∧ St w S wr (RpL r ⟨some ⟨gb, go, none⟩, some ⟨ob, oo, none⟩, some ⟨fb, fo, none⟩, some ⟨bb, bo, none⟩, gc, oc, fc, bc, X⟩ (n' + 1) st ++ [BlkR w.heap.size 39 #[.int .i64 0, .int .u64 0]])) (fun i _ => (n' + 1) - (intOf i).toNat)
    case atStart => exact ⟨0, by omega, rfl, fun j hj => absurd hj (by omega), S1.out.drewN _⟩
    case round =>
      clear c0 c1 c2 c3 b0 b1 fb0 fb1 e3 S1
      obtain ⟨k, hk, rfl, hno, sr⟩ := hrel
      obtain ⟨c0, c1, c2, c3⟩ := rp_box sr
      have i0' : (0 : Int) ≤ (k : Int) := by omega
      by_cases hlt : k < n' + 1
      · obtain ⟨e0, e1, e2, e3⟩ := rp_four sr hlt
        obtain ⟨-, z1, z2, -⟩ := rp_frozen sr (oo + k)
        have hlk := (ok.b k hlt).2.2.2
        have i1' : (k : Int) < ((n' + 1 : Nat) : Int) := by omega
        by_cases ho : (st k).owner = 0
        · by_cases hf : z ≤ ((st k).bs.length : Nat)
          · obtain ⟨rfl, rfl, rfl, rfl⟩ : x = (k : Int) ∧ g = (st k).gen ∧ c = 0 ∧ st' = updB st k (got (st k)) := by
              rcases h with ⟨h, -⟩ | ⟨-, h, -⟩ | ⟨-, i, hi, hj, hfi, h⟩
              · exact absurd hz h
              · exact absurd ⟨ho, hf⟩ (h k hlt)
              · obtain rfl : i = k := by
                  rcases Nat.lt_trichotomy i k with hh | hh | hh
                  · exact absurd hfi (hno i hh)
                  · exact hh
                  · exact absurd ⟨ho, hf⟩ (hj k hh)
                exact h
            rw [ho] at e1
            have d3 : decide (z ≤ ((st k).bs.length : Int)) = true := decide_eq_true (by omega)
            have t1 := rp_seto sr hlt 1
            obtain ⟨-, -, e2', -⟩ := rp_four t1 hlt
            obtain ⟨c0', c1', c2', c3'⟩ := rp_box t1
            have t2 := rp_setf t1 hlt 1
            obtain ⟨g0, -, -, g3⟩ := rp_four t2 hlt
            obtain ⟨h0, -, -, h3⟩ := rp_box t2
            simp only [updB_self] at t2 g3 e2' g0
            obtain ⟨X', t3⟩ := rp_got t2 hlt (by rw [updB_self]; exact hlk) (q := wr.heap.size) (by simp [World.setCell])
            simp only [updB_self] at t3
            have mk := MK.out (st k).bs.length hlk
            have zf1 := z1
            obtain ⟨-, -, zf2, -⟩ := rp_frozen t1 (fo + k)
            obtain ⟨-, -, -, zf3⟩ := rp_frozen (t2.alloc (.cells (madeCells #[.int .u8 0] (st k).bs.length) 5)) (bo + k)
            have g3' := cell_alloc g3 (.cells (madeCells #[.int .u8 0] (st k).bs.length) 5)
            have h3' := cell_alloc h3 (.cells (madeCells #[.int .u8 0] (st k).bs.length) 5)
            obtain ⟨q0, -, -, -⟩ := rp_four t3 hlt
            obtain ⟨r0, -, -, -⟩ := rp_box t3
            simp only [updB_self] at q0
            have x0 := (rp_bx t3 0 rfl).frozen 0
            obtain ⟨y30, y31⟩ := (rp_bx t3 0 rfl).two
            have t4 := rp_bx_set t3 0 rfl 0 (.int .i64 k)
            have x1 := (rp_bx t4 0 rfl).frozen 1
            have y4 := (rp_bx t4 0 rfl).two
            have t5 := rp_bx_set t4 0 rfl 1 (.int .u64 (st k).gen)
            have y5 := (rp_bx t5 0 rfl).two
            rw [updB3] at t5
            have T5 := Lib.hid (t5.drew)
            clear t1 t2 t3 t4 t5 sr h hno z2 MK ho
            go_wp2_with fail
            go_region
            all_goals go_wp2_with fail
            all_goals refine bodyPost_ret (v := .tuple #[.agg #[.int .i64 k, .int .u64 (st k).gen], .int .i64 0]) ?_ rfl ⟨rfl, rp_end T5.out⟩
            all_goals simp [results, go_sem, y5.1, y5.2]
          · have d3 : decide (z ≤ ((st k).bs.length : Int)) = false := decide_eq_false (by omega)
            have HNO := Lib.hid (show ∀ j, j < k + 1 → ¬ fit st z j from fun j hj => by
              by_cases e : j = k
              · rw [e]; exact fun hh => hf hh.2
              · exact hno j (by omega))
            rw [ho] at e1
            have SR := Lib.hid sr
            clear sr h hno e0 e2 ho z1 z2 MK
            generalize (st k).bs.length = lk at *
            go_wp2_with fail
            go_roundw
            case rel => exact ⟨k + 1, by omega, by go_num, HNO.out, SR.out⟩
            case measure => simp [intOf]; omega
        · have z0 : ((st k).owner == 0) = false := beq_eq_false_iff_ne.2 ho
          have HNO := Lib.hid (show ∀ j, j < k + 1 → ¬ fit st z j from fun j hj => by
              by_cases e : j = k
              · rw [e]; exact fun hh => ho hh.1
              · exact hno j (by omega))
          have SR := Lib.hid sr
          clear sr h hno e0 e2 ho z1 z2 MK
          generalize (st k).owner = ow at *
          go_wp2_with fail
          go_roundw
          case rel => exact ⟨k + 1, by omega, by go_num, HNO.out, SR.out⟩
          case measure => simp [intOf]; omega
      · obtain rfl : k = n' + 1 := by omega
        obtain ⟨rfl, rfl, rfl, rfl⟩ : x = 0 ∧ g = 0 ∧ c = 5 ∧ st' = st := by
          rcases h with ⟨h, -⟩ | ⟨-, -, h⟩ | ⟨-, i, hi, hj, hfi, h⟩
          · exact absurd hz h
          · exact h
          · exact absurd hfi (hno i hi)
        have q0 := (rp_bx sr 0 rfl).two
        have z0 := (rp_bx sr 0 rfl).frozen 0
        have z1 := (rp_bx sr 0 rfl).frozen 1
        have s7 := rp_bx_set sr 0 rfl 0 (.int .i64 0)
        have q1 := (rp_bx s7 0 rfl).two
        have z2 := (rp_bx s7 0 rfl).frozen 1
        have s8 := rp_bx_set s7 0 rfl 1 (.int .u64 0)
        have q2 := (rp_bx s8 0 rfl).two
        have S8 := Lib.hid s8
        clear s7 s8 sr h hno MK
        go_wp2_with fail
        refine bodyPost_ret (v := .tuple #[.agg #[.int .i64 0, .int .u64 0], .int .i64 5]) ?_ rfl ⟨rfl, rp_end S8.out⟩
        simp [results, go_sem, q2.1, q2.2]
  · obtain ⟨rfl, rfl, rfl, rfl⟩ : x = 0 ∧ g = 0 ∧ c = 1 ∧ st' = st := by
      rcases h with ⟨-, h⟩ | ⟨h, -⟩ | ⟨h, -⟩
      · exact h
      · exact absurd h hz
      · exact absurd h hz
    by_cases hz1 : 1 ≤ z
    · have d1 : decide (z < 1) = false := decide_eq_false (by omega)
      have d2 : decide ((le : Int) < z) = true := decide_eq_true (by omega)
      clear h hle hz MK
      go_enter Tryz.func38, Tryz.ntmps38
      go_wp2_with fail
      go_quiet (fail)
      go_wp2_with fail
      refine bodyPost_ret (v := .tuple #[.agg #[.int .i64 0, .int .u64 0], .int .i64 1]) ?_ rfl ⟨rfl, rp_end (SD.out _)⟩
      simp [results, go_sem, b0, b1]
    · have d1 : decide (z < 1) = true := decide_eq_true (by omega)
      clear h hle hz MK
      go_enter Tryz.func38, Tryz.ntmps38
      go_wp2_with fail
      go_quiet (fail)
      go_wp2_with fail
      refine bodyPost_ret (v := .tuple #[.agg #[.int .i64 0, .int .u64 0], .int .i64 1]) ?_ rfl ⟨rfl, rp_end (SD.out _)⟩
      simp [results, go_sem, b0, b1]
theorem RGet_o (H : St w0 S0 w L) (i : Nat) (hi : L[i]? = some (RPR r n st)) (ok : POK n st G) {z : Int} {x g c : Int} {st' : Nat → Buf} (h : GetP n st z x g c st') :
    Calls Tryz.prog 38 #[.pointer (some ⟨r, 0, none⟩), .int .i64 z] w fun e w' => e = .returned (.tuple #[.agg #[.int .i64 x, .int .u64 g], .int .i64 c]) ∧ St w0 S0 w' (L.set i (RPR r n st')) :=
  H.call1 (RPR.ok _ _ _) i hi fun S hp => RGet_c ok h w S hp
end
end
end po
end Go.Proofs.YtdjhpdacglojaaaGreat
