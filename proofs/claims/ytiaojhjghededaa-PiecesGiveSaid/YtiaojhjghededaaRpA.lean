/- Layer 7: the document's own pool in memory. Nothing of one law. -/
import Derived.Test.YtiaojhjghededaaPoolP
import Derived.Test.YtiaojhjghededaaFill
namespace Go.Proofs.Ytiaojhjghededaa
open Go.RowKit
set_option linter.unusedVariables false
set_option maxRecDepth 100000
set_option maxHeartbeats 800000
/-- A list of n values by their places. -/
def rng (n : Nat) (f : Nat → Value) : List Value := (List.range n).map f
theorem rng_len (n : Nat) (f : Nat → Value) : (rng n f).length = n := by simp [rng]
theorem rng_at {n i : Nat} (f : Nat → Value) (h : i < n) : (rng n f)[i]? = some (f i) := by simp [rng, h]
theorem rng_like {n : Nat} {f g : Nat → Value} (h : ∀ i, i < n → f i = g i) : rng n f = rng n g := List.map_congr_left fun i hi => h i (by simpa using hi)
theorem rng_snoc (n : Nat) (f : Nat → Value) : rng (n + 1) f = rng n f ++ [f n] := by simp [rng, List.range_succ]
theorem rng_set {n i : Nat} (f : Nat → Value) (u : Value) (h : i < n) : (rng n f).set i u = rng n (fun j => if j = i then u else f j) := by
  apply List.ext_getElem?
  intro j
  by_cases hj : j < n
  · rw [rng_at _ hj]
    by_cases e : j = i
    · subst e; rw [List.getElem?_set_self (by rw [rng_len]; exact h), if_pos rfl]
    · rw [List.getElem?_set_ne (Ne.symm e), rng_at _ hj, if_neg e]
  · rw [List.getElem?_eq_none (by rw [List.length_set, rng_len]; omega), List.getElem?_eq_none (by rw [rng_len]; omega)]
/-- Where its rows lie. -/
structure RpA where
  G : Option Addr
  O : Option Addr
  F : Option Addr
  B : Option Addr
  gc : Nat
  oc : Nat
  fc : Nat
  bc : Nat
  X : Nat → Option Addr × Nat
def rpV (X : Nat → Option Addr × Nat) (st : Nat → Buf) (i : Nat) : Value := .slice (X i).1 (st i).bs.length (X i).2
def rpG (st : Nat → Buf) (i : Nat) : Value := .int .u64 (st i).gen
def rpO (st : Nat → Buf) (i : Nat) : Value := .int .i64 (st i).owner
def rpF (st : Nat → Buf) (i : Nat) : Value := .int .i64 (st i).refs
def RpL (r : Nat) (a : RpA) (n : Nat) (st : Nat → Buf) : List Res :=
  [BlkR r 85 #[.slice a.G n a.gc, .slice a.O n a.oc, .slice a.F n a.fc, .slice a.B n a.bc],
   LisR 38 1 (.slice a.G n a.gc) n (rng n (rpG st)), LisR 3 1 (.slice a.O n a.oc) n (rng n (rpO st)),
   LisR 3 1 (.slice a.F n a.fc) n (rng n (rpF st)), LisR 23 1 (.slice a.B n a.bc) n (rng n (rpV a.X st))] ++
  (List.range n).map (fun i => LisR 5 1 (rpV a.X st i) (st i).bs.length (bys (st i).bs))
def RPR (r n : Nat) (st : Nat → Buf) : Res := fun w S => ∃ a, Star (RpL r a n st) w S
theorem RPR.ok (r n : Nat) (st : Nat → Buf) : Ok (RPR r n st) :=
  ⟨fun ⟨_, h⟩ b hb => (Star.ok _).lt h b hb, fun ⟨a, h⟩ hk => ⟨a, (Star.ok _).frame h hk⟩⟩
section
variable {w0 w : World} {S S0 : Nat → Prop} {N L : List Res} {r n : Nat} {a : RpA} {st : Nat → Buf} {gb go ob oo fb fo bb bo gc oc fc bc : Nat} {X : Nat → Option Addr × Nat}
theorem rp_len : (RpL r a n st).length = 5 + n := by simp [RpL]; omega
theorem rp_begin (h : RPR r n st w S) (h1 : 1 ≤ n) : ∃ gb go ob oo fb fo bb bo gc oc fc bc X, St w S w (RpL r ⟨some ⟨gb, go, none⟩, some ⟨ob, oo, none⟩, some ⟨fb, fo, none⟩, some ⟨bb, bo, none⟩, gc, oc, fc, bc, X⟩ n st ++ []) := by
  obtain ⟨⟨G, O, F, B, gc, oc, fc, bc, X⟩, h⟩ := h
  have s := St.start h
  obtain ⟨_, _, e1, -, -, -, h1'⟩ := s.lis_cells 1 rfl
  obtain ⟨_, _, e2, -, -, -, h2'⟩ := s.lis_cells 2 rfl
  obtain ⟨_, _, e3, -, -, -, h3'⟩ := s.lis_cells 3 rfl
  obtain ⟨_, _, e4, -, -, -, h4'⟩ := s.lis_cells 4 rfl
  injection e1 with e1 _ _
  injection e2 with e2 _ _
  injection e3 with e3 _ _
  injection e4 with e4 _ _
  obtain ⟨g1, o1, f1, -⟩ := h1'.resolve_left (by omega)
  obtain ⟨g2, o2, f2, -⟩ := h2'.resolve_left (by omega)
  obtain ⟨g3, o3, f3, -⟩ := h3'.resolve_left (by omega)
  obtain ⟨g4, o4, f4, -⟩ := h4'.resolve_left (by omega)
  refine ⟨g1, o1, g2, o2, g3, o3, g4, o4, gc, oc, fc, bc, X, ?_⟩
  rw [← f1, ← f2, ← f3, ← f4]
  rw [List.append_nil]
  dsimp only at e1 e2 e3 e4
  subst e1 e2 e3 e4
  exact s
theorem rp_end (s : St w0 S0 w (RpL r a n st ++ N)) : ∃ S', RPR r n st w S' ∧ Did S0 S' w0 w := by
  have h := s.take (RpL r a n st).length
  rw [List.take_left] at h
  exact h.fin fun S h => ⟨a, h⟩
theorem rp_box (s : St w0 S0 w (RpL r a n st ++ N)) : w.cell? ⟨r, 0, none⟩ = some (.slice a.G n a.gc) ∧ w.cell? ⟨r, 1, none⟩ = some (.slice a.O n a.oc) ∧ w.cell? ⟨r, 2, none⟩ = some (.slice a.F n a.fc) ∧ w.cell? ⟨r, 3, none⟩ = some (.slice a.B n a.bc) := by
  have h := s.blk 0 rfl
  exact ⟨h.cell 0, h.cell 1, h.cell 2, h.cell 3⟩
theorem rp_four (s : St w0 S0 w (RpL r ⟨some ⟨gb, go, none⟩, some ⟨ob, oo, none⟩, some ⟨fb, fo, none⟩, some ⟨bb, bo, none⟩, gc, oc, fc, bc, X⟩ n st ++ N)) {i : Nat} (hi : i < n) :
    w.cell? ⟨gb, go + i, none⟩ = some (.int .u64 (st i).gen) ∧ w.cell? ⟨ob, oo + i, none⟩ = some (.int .i64 (st i).owner) ∧ w.cell? ⟨fb, fo + i, none⟩ = some (.int .i64 (st i).refs) ∧ w.cell? ⟨bb, bo + i, none⟩ = some (.slice (X i).1 (st i).bs.length (X i).2) := by
  have key : ∀ (q : Nat) (e : TypeId) (b o c : Nat) (f : Nat → Value), (RpL r ⟨some ⟨gb, go, none⟩, some ⟨ob, oo, none⟩, some ⟨fb, fo, none⟩, some ⟨bb, bo, none⟩, gc, oc, fc, bc, X⟩ n st ++ N)[q]? = some (LisR e 1 (.slice (some ⟨b, o, none⟩) n c) n (rng n f)) → w.cell? ⟨b, o + i, none⟩ = some (f i) := by
    intro q e b o c f hq
    rcases (s.lis q hq).reads.2 with h | ⟨g', o', ha, hc⟩
    · omega
    · obtain ⟨rfl, rfl⟩ : b = g' ∧ o = o' := by simpa using ha
      exact hc _ _ (rng_at f hi)
  exact ⟨key 1 _ _ _ _ _ rfl, key 2 _ _ _ _ _ rfl, key 3 _ _ _ _ _ rfl, key 4 _ _ _ _ _ rfl⟩
theorem rp_frozen (s : St w0 S0 w (RpL r ⟨some ⟨gb, go, none⟩, some ⟨ob, oo, none⟩, some ⟨fb, fo, none⟩, some ⟨bb, bo, none⟩, gc, oc, fc, bc, X⟩ n st ++ N)) (o : Nat) : w.frozen? ⟨gb, o, none⟩ = false ∧ w.frozen? ⟨ob, o, none⟩ = false ∧ w.frozen? ⟨fb, o, none⟩ = false ∧ w.frozen? ⟨bb, o, none⟩ = false :=
  ⟨(s.lis 1 rfl).frozen o, (s.lis 2 rfl).frozen o, (s.lis 3 rfl).frozen o, (s.lis 4 rfl).frozen o⟩
theorem rp_idx {i : Nat} (h : i < n) : (RpL r a n st ++ N)[5 + i]? = some (LisR 5 1 (rpV a.X st i) (st i).bs.length (bys (st i).bs)) := by
  rw [List.getElem?_append_left (by rw [rp_len]; omega)]
  exact fam_at [_, _, _, _, _] _ h
theorem rp_bs (s : St w0 S0 w (RpL r a n st ++ N)) {i : Nat} (h : i < n) : Lis w 5 1 (.slice (a.X i).1 (st i).bs.length (a.X i).2) (st i).bs.length (bys (st i).bs) := s.lis _ (rp_idx h)
theorem rp_like {st' : Nat → Buf} {a' : RpA} (h : ∀ i, i < n → st i = st' i) (hg : a.G = a'.G ∧ a.O = a'.O ∧ a.F = a'.F ∧ a.B = a'.B ∧ a.gc = a'.gc ∧ a.oc = a'.oc ∧ a.fc = a'.fc ∧ a.bc = a'.bc) (hX : ∀ i, i < n → a.X i = a'.X i) : RpL r a n st = RpL r a' n st' := by
  obtain ⟨h1, h2, h3, h4, h5, h6, h7, h8⟩ := hg
  unfold RpL
  rw [h1, h2, h3, h4, h5, h6, h7, h8, rng_like (f := rpG st) (g := rpG st') (fun i hi => by unfold rpG; rw [h i hi]), rng_like (f := rpO st) (g := rpO st') (fun i hi => by unfold rpO; rw [h i hi]), rng_like (f := rpF st) (g := rpF st') (fun i hi => by unfold rpF; rw [h i hi]),
    rng_like (f := rpV a.X st) (g := rpV a'.X st') (fun i hi => by unfold rpV; rw [h i hi, hX i hi])]
  congr 1
  exact fam_like (R := fun i => LisR 5 1 (rpV a.X st i) (st i).bs.length (bys (st i).bs)) (R' := fun i => LisR 5 1 (rpV a'.X st' i) (st' i).bs.length (bys (st' i).bs)) fun i hi => by unfold rpV; rw [h i hi, hX i hi]
/-- An owner is laid anew. -/
theorem rp_seto (s : St w0 S0 w (RpL r ⟨some ⟨gb, go, none⟩, some ⟨ob, oo, none⟩, some ⟨fb, fo, none⟩, some ⟨bb, bo, none⟩, gc, oc, fc, bc, X⟩ n st ++ N)) {i : Nat} (hi : i < n) (o : Int) :
    St w0 S0 (w.setCell ⟨ob, oo + i, none⟩ (.int .i64 o)) (RpL r ⟨some ⟨gb, go, none⟩, some ⟨ob, oo, none⟩, some ⟨fb, fo, none⟩, some ⟨bb, bo, none⟩, gc, oc, fc, bc, X⟩ n (updB st i { st i with owner := o }) ++ N) := by
  have h := s.lis_set 2 rfl (k := i) (by omega) (.int .i64 o)
  rw [rng_set _ _ hi] at h
  have e : RpL r ⟨some ⟨gb, go, none⟩, some ⟨ob, oo, none⟩, some ⟨fb, fo, none⟩, some ⟨bb, bo, none⟩, gc, oc, fc, bc, X⟩ n (updB st i { st i with owner := o }) = (RpL r ⟨some ⟨gb, go, none⟩, some ⟨ob, oo, none⟩, some ⟨fb, fo, none⟩, some ⟨bb, bo, none⟩, gc, oc, fc, bc, X⟩ n st).set 2 (LisR 3 1 (.slice (some ⟨ob, oo, none⟩) n oc) n (rng n fun j => if j = i then .int .i64 o else rpO st j)) := by
    have hv : ∀ j, j < n → rpV X (updB st i { st i with owner := o }) j = rpV X st j := fun j hj => by unfold rpV; by_cases e : j = i <;> simp [updB, e]
    have hb : ∀ j, (updB st i { st i with owner := o } j).bs = (st j).bs := fun j => by by_cases e : j = i <;> simp [updB, e]
    unfold RpL
    rw [rng_like (f := rpG (updB st i { st i with owner := o })) (g := rpG st) (fun j hj => by unfold rpG; by_cases e : j = i <;> simp [updB, e]), rng_like (f := rpF (updB st i { st i with owner := o })) (g := rpF st) (fun j hj => by unfold rpF; by_cases e : j = i <;> simp [updB, e]),
      rng_like (f := rpO (updB st i { st i with owner := o })) (g := fun j => if j = i then .int .i64 o else rpO st j) (fun j hj => by unfold rpO; by_cases e : j = i <;> simp [updB, e]), rng_like hv,
      fam_like (R := fun j => LisR 5 1 (rpV X (updB st i { st i with owner := o }) j) (updB st i { st i with owner := o } j).bs.length (bys (updB st i { st i with owner := o } j).bs)) (R' := fun j => LisR 5 1 (rpV X st j) (st j).bs.length (bys (st j).bs)) (fun j hj => by rw [hv j hj, hb j])]
    rfl
  rw [e, ← List.set_append_left _ _ (by rw [rp_len]; omega)]
  exact h
theorem rp_setf (s : St w0 S0 w (RpL r ⟨some ⟨gb, go, none⟩, some ⟨ob, oo, none⟩, some ⟨fb, fo, none⟩, some ⟨bb, bo, none⟩, gc, oc, fc, bc, X⟩ n st ++ N)) {i : Nat} (hi : i < n) (o : Int) :
    St w0 S0 (w.setCell ⟨fb, fo + i, none⟩ (.int .i64 o)) (RpL r ⟨some ⟨gb, go, none⟩, some ⟨ob, oo, none⟩, some ⟨fb, fo, none⟩, some ⟨bb, bo, none⟩, gc, oc, fc, bc, X⟩ n (updB st i { st i with refs := o }) ++ N) := by
  have h := s.lis_set 3 rfl (k := i) (by omega) (.int .i64 o)
  rw [rng_set _ _ hi] at h
  have e : RpL r ⟨some ⟨gb, go, none⟩, some ⟨ob, oo, none⟩, some ⟨fb, fo, none⟩, some ⟨bb, bo, none⟩, gc, oc, fc, bc, X⟩ n (updB st i { st i with refs := o }) = (RpL r ⟨some ⟨gb, go, none⟩, some ⟨ob, oo, none⟩, some ⟨fb, fo, none⟩, some ⟨bb, bo, none⟩, gc, oc, fc, bc, X⟩ n st).set 3 (LisR 3 1 (.slice (some ⟨fb, fo, none⟩) n fc) n (rng n fun j => if j = i then .int .i64 o else rpF st j)) := by
    have hv : ∀ j, j < n → rpV X (updB st i { st i with refs := o }) j = rpV X st j := fun j hj => by unfold rpV; by_cases e : j = i <;> simp [updB, e]
    have hb : ∀ j, (updB st i { st i with refs := o } j).bs = (st j).bs := fun j => by by_cases e : j = i <;> simp [updB, e]
    unfold RpL
    rw [rng_like (f := rpG (updB st i { st i with refs := o })) (g := rpG st) (fun j hj => by unfold rpG; by_cases e : j = i <;> simp [updB, e]), rng_like (f := rpO (updB st i { st i with refs := o })) (g := rpO st) (fun j hj => by unfold rpO; by_cases e : j = i <;> simp [updB, e]),
      rng_like (f := rpF (updB st i { st i with refs := o })) (g := fun j => if j = i then .int .i64 o else rpF st j) (fun j hj => by unfold rpF; by_cases e : j = i <;> simp [updB, e]), rng_like hv,
      fam_like (R := fun j => LisR 5 1 (rpV X (updB st i { st i with refs := o }) j) (updB st i { st i with refs := o } j).bs.length (bys (updB st i { st i with refs := o } j).bs)) (R' := fun j => LisR 5 1 (rpV X st j) (st j).bs.length (bys (st j).bs)) (fun j hj => by rw [hv j hj, hb j])]
    rfl
  rw [e, ← List.set_append_left _ _ (by rw [rp_len]; omega)]
  exact h
theorem rp_setg (s : St w0 S0 w (RpL r ⟨some ⟨gb, go, none⟩, some ⟨ob, oo, none⟩, some ⟨fb, fo, none⟩, some ⟨bb, bo, none⟩, gc, oc, fc, bc, X⟩ n st ++ N)) {i : Nat} (hi : i < n) (o : Int) :
    St w0 S0 (w.setCell ⟨gb, go + i, none⟩ (.int .u64 o)) (RpL r ⟨some ⟨gb, go, none⟩, some ⟨ob, oo, none⟩, some ⟨fb, fo, none⟩, some ⟨bb, bo, none⟩, gc, oc, fc, bc, X⟩ n (updB st i { st i with gen := o }) ++ N) := by
  have h := s.lis_set 1 rfl (k := i) (by omega) (.int .u64 o)
  rw [rng_set _ _ hi] at h
  have e : RpL r ⟨some ⟨gb, go, none⟩, some ⟨ob, oo, none⟩, some ⟨fb, fo, none⟩, some ⟨bb, bo, none⟩, gc, oc, fc, bc, X⟩ n (updB st i { st i with gen := o }) = (RpL r ⟨some ⟨gb, go, none⟩, some ⟨ob, oo, none⟩, some ⟨fb, fo, none⟩, some ⟨bb, bo, none⟩, gc, oc, fc, bc, X⟩ n st).set 1 (LisR 38 1 (.slice (some ⟨gb, go, none⟩) n gc) n (rng n fun j => if j = i then .int .u64 o else rpG st j)) := by
    have hv : ∀ j, j < n → rpV X (updB st i { st i with gen := o }) j = rpV X st j := fun j hj => by unfold rpV; by_cases e : j = i <;> simp [updB, e]
    have hb : ∀ j, (updB st i { st i with gen := o } j).bs = (st j).bs := fun j => by by_cases e : j = i <;> simp [updB, e]
    unfold RpL
    rw [rng_like (f := rpF (updB st i { st i with gen := o })) (g := rpF st) (fun j hj => by unfold rpF; by_cases e : j = i <;> simp [updB, e]), rng_like (f := rpO (updB st i { st i with gen := o })) (g := rpO st) (fun j hj => by unfold rpO; by_cases e : j = i <;> simp [updB, e]),
      rng_like (f := rpG (updB st i { st i with gen := o })) (g := fun j => if j = i then .int .u64 o else rpG st j) (fun j hj => by unfold rpG; by_cases e : j = i <;> simp [updB, e]), rng_like hv,
      fam_like (R := fun j => LisR 5 1 (rpV X (updB st i { st i with gen := o }) j) (updB st i { st i with gen := o } j).bs.length (bys (updB st i { st i with gen := o } j).bs)) (R' := fun j => LisR 5 1 (rpV X st j) (st j).bs.length (bys (st j).bs)) (fun j hj => by rw [hv j hj, hb j])]
    rfl
  rw [e, ← List.set_append_left _ _ (by rw [rp_len]; omega)]
  exact h
/-- A buffer's bytes are another row, which was laid last. -/
theorem rp_setb {A : Option Addr} {c : Nat} {xs : List Int} (s : St w0 S0 w (RpL r ⟨some ⟨gb, go, none⟩, some ⟨ob, oo, none⟩, some ⟨fb, fo, none⟩, some ⟨bb, bo, none⟩, gc, oc, fc, bc, X⟩ n st ++ N ++ [LisR 5 1 (.slice A xs.length c) xs.length (bys xs)])) {i : Nat} (hi : i < n) :
    ∃ X', St w0 S0 (w.setCell ⟨bb, bo + i, none⟩ (.slice A xs.length c)) (RpL r ⟨some ⟨gb, go, none⟩, some ⟨ob, oo, none⟩, some ⟨fb, fo, none⟩, some ⟨bb, bo, none⟩, gc, oc, fc, bc, X'⟩ n (updB st i { st i with bs := xs }) ++ N) := by
  refine ⟨fun j => if j = i then (A, c) else X j, ?_⟩
  have hV : ∀ j, rpV (fun j => if j = i then (A, c) else X j) (updB st i { st i with bs := xs }) j = if j = i then .slice A xs.length c else rpV X st j := fun j => by unfold rpV; by_cases e : j = i <;> simp [updB, e]
  rw [List.append_assoc] at s
  have h := s.lis_set 4 rfl (k := i) (by omega) (.slice A xs.length c)
  rw [rng_set _ _ hi, List.set_append_left _ _ (by rw [rp_len]; omega), ← List.append_assoc] at h
  have h2 := h.place (q := 5 + i) (by rw [List.length_append, List.length_set, rp_len]; omega)
  rw [List.set_append_left _ _ (by rw [List.length_set, rp_len]; omega)] at h2
  have e : RpL r ⟨some ⟨gb, go, none⟩, some ⟨ob, oo, none⟩, some ⟨fb, fo, none⟩, some ⟨bb, bo, none⟩, gc, oc, fc, bc, fun j => if j = i then (A, c) else X j⟩ n (updB st i { st i with bs := xs }) =
      ((RpL r ⟨some ⟨gb, go, none⟩, some ⟨ob, oo, none⟩, some ⟨fb, fo, none⟩, some ⟨bb, bo, none⟩, gc, oc, fc, bc, X⟩ n st).set 4 (LisR 23 1 (.slice (some ⟨bb, bo, none⟩) n bc) n (rng n fun j => if j = i then .slice A xs.length c else rpV X st j))).set (5 + i) (LisR 5 1 (.slice A xs.length c) xs.length (bys xs)) := by
    have hb : ∀ j, (updB st i { st i with bs := xs } j).bs = if j = i then xs else (st j).bs := fun j => by by_cases e : j = i <;> simp [updB, e]
    unfold RpL
    rw [rng_like (f := rpG (updB st i { st i with bs := xs })) (g := rpG st) (fun j hj => by unfold rpG; by_cases e : j = i <;> simp [updB, e]), rng_like (f := rpO (updB st i { st i with bs := xs })) (g := rpO st) (fun j hj => by unfold rpO; by_cases e : j = i <;> simp [updB, e]),
      rng_like (f := rpF (updB st i { st i with bs := xs })) (g := rpF st) (fun j hj => by unfold rpF; by_cases e : j = i <;> simp [updB, e]), rng_like (fun j _ => hV j),
      fam_like (R := fun j => LisR 5 1 (rpV (fun j => if j = i then (A, c) else X j) (updB st i { st i with bs := xs }) j) (updB st i { st i with bs := xs } j).bs.length (bys (updB st i { st i with bs := xs } j).bs)) (R' := fun j => if j = i then LisR 5 1 (.slice A xs.length c) xs.length (bys xs) else LisR 5 1 (rpV X st j) (st j).bs.length (bys (st j).bs)) (fun j hj => by
        rw [hV j, hb j]
        by_cases e : j = i
        · rw [if_pos e, if_pos e, if_pos e]
        · rw [if_neg e, if_neg e, if_neg e])]
    exact (fam_set [_, _, _, _, _] _ _ hi).symm
  rw [e]
  exact h2
/-- One box among what else there is. -/
theorem rp_bx (s : St w0 S0 w (RpL r a n st ++ N)) (j : Nat) {g : Nat} {t : TypeId} {cs : Array Value} (h : N[j]? = some (BlkR g t cs)) : Blk w g t cs :=
  s.blk ((RpL r a n st).length + j) (by rw [List.getElem?_append_right (by omega), Nat.add_sub_cancel_left]; exact h)
theorem rp_bx_set (s : St w0 S0 w (RpL r a n st ++ N)) (j : Nat) {g : Nat} {t : TypeId} {cs : Array Value} (h : N[j]? = some (BlkR g t cs)) (k : Nat) (u : Value) : St w0 S0 (w.setCell ⟨g, k, none⟩ u) (RpL r a n st ++ N.set j (BlkR g t (cs.setIfInBounds k u))) := by
  have := s.set_ ((RpL r a n st).length + j) (by rw [List.getElem?_append_right (by omega), Nat.add_sub_cancel_left]; exact h) k u
  rwa [List.set_append_right _ _ (by omega), Nat.add_sub_cancel_left] at this
end
end Go.Proofs.Ytiaojhjghededaa
