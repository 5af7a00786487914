/- Layer 6: who wants a slot, told by bits; the lists of such numbers. -/
import Derived.Test.YtabocojmobbpaaaBusK
namespace Go.Proofs.Ytabocojmobbpaaa
open Go.RowKit
set_option linter.unusedVariables false
theorem Try.infoI : (Try.prog.info? 3).map (fun i => (i.zero, i.size, i.bytes)) = some (some (.int .i64 0), 1, 8) := by kernel_rfl
/-- Is the bit set? -/
def bitB (y : Int) (j : Nat) : Bool := (bits BinOp.and IntKind.u16 (y / 2 ^ j) 1 == 1)
/-- The numbers below k that are meant. -/
def il (m : Nat → Bool) : Nat → List Nat
  | 0 => []
  | k + 1 => if m k = true then il m k ++ [k] else il m k
theorem il_yes {m : Nat → Bool} {k : Nat} (h : m k = true) : il m (k + 1) = il m k ++ [k] := by rw [il, if_pos h]
theorem il_no {m : Nat → Bool} {k : Nat} (h : m k = false) : il m (k + 1) = il m k := by rw [il, if_neg (by rw [h]; simp)]
theorem mem_il {m : Nat → Bool} {i : Nat} : ∀ {k : Nat}, i ∈ il m k ↔ i < k ∧ m i = true
  | 0 => by simp [il]
  | k + 1 => by
    cases h : m k
    · rw [il_no h, mem_il]; constructor
      · rintro ⟨a, b⟩; exact ⟨by omega, b⟩
      · rintro ⟨a, b⟩
        have : i ≠ k := fun e => by subst e; rw [h] at b; cases b
        exact ⟨by omega, b⟩
    · rw [il_yes h, List.mem_append, mem_il]; constructor
      · rintro (⟨a, b⟩ | a)
        · exact ⟨by omega, b⟩
        · simp at a; subst a; exact ⟨by omega, h⟩
      · rintro ⟨a, b⟩
        by_cases e : i = k
        · right; simp [e]
        · left; exact ⟨by omega, b⟩
theorem il_nodup (m : Nat → Bool) : ∀ k, (il m k).Nodup
  | 0 => by simp [il]
  | k + 1 => by
    cases h : m k
    · rw [il_no h]; exact il_nodup m k
    · rw [il_yes h, List.nodup_append]
      exact ⟨il_nodup m k, by simp, fun a ha b hb => by
        have := (mem_il.1 ha).1; simp at hb; omega⟩
theorem il_len (m : Nat → Bool) : ∀ k, (il m k).length ≤ k
  | 0 => by simp [il]
  | k + 1 => by
    have := il_len m k
    cases h : m k
    · rw [il_no h]; omega
    · rw [il_yes h]; simp; omega
theorem il_at {m : Nat → Bool} {n c i : Nat} (h : (il m n)[c]? = some i) : i < n ∧ m i = true := mem_il.1 (List.mem_of_getElem? h)
theorem il_inj {m : Nat → Bool} {n c d i : Nat} (h : (il m n)[c]? = some i) (h2 : (il m n)[d]? = some i) : c = d := by
  obtain ⟨h3, h4⟩ := List.getElem?_eq_some_iff.1 h
  obtain ⟨h5, h6⟩ := List.getElem?_eq_some_iff.1 h2
  exact (List.getElem_inj (il_nodup m n)).1 (h4.trans h6.symm)
theorem il_of {m : Nat → Bool} {n i : Nat} (h1 : i < n) (h2 : m i = true) : ∃ c : Nat, (il m n)[c]? = some i := by
  obtain ⟨c, hc, h⟩ := List.mem_iff_getElem.1 (mem_il.2 ⟨h1, h2⟩)
  exact ⟨c, by rw [List.getElem?_eq_getElem hc, h]⟩
/-- As cells, each once. -/
def sv (l : List Nat) : List Value := l.map fun (i : Nat) => Value.int .i64 (i : Int)
theorem sv_app (l : List Nat) (i : Nat) : sv (l ++ [i]) = sv l ++ [.int .i64 (i : Int)] := by simp [sv]
theorem sv_at {l : List Nat} {c i : Nat} (h : l[c]? = some i) : (sv l)[c]? = some (.int .i64 (i : Int)) := by simp [sv, h]
/-- As cells, each twice. -/
def dv : List Nat → List Value
  | [] => []
  | i :: l => .int .i64 (i : Int) :: .int .i64 (i : Int) :: dv l
theorem dv_app (l : List Nat) (i : Nat) : dv (l ++ [i]) = dv l ++ [.int .i64 (i : Int), .int .i64 (i : Int)] := by
  induction l with
  | nil => rfl
  | cons a l ih => simp [dv, ih]
theorem dv_len (l : List Nat) : (dv l).length = 2 * l.length := by
  induction l with
  | nil => rfl
  | cons a l ih => simp [dv, ih]; omega
theorem dv_at : ∀ {l : List Nat} {j i : Nat}, l[j / 2]? = some i → (dv l)[j]? = some (.int .i64 (i : Int))
  | [], j, i, h => by simp at h
  | a :: l, 0, i, h => by simp at h; subst h; rfl
  | a :: l, 1, i, h => by simp at h; subst h; rfl
  | a :: l, j + 2, i, h => by
    have e : (j + 2) / 2 = j / 2 + 1 := by omega
    rw [e] at h
    have := dv_at (l := l) (j := j) (i := i) (by simpa using h)
    simpa [dv] using this
theorem want_of {l : List Nat} {nw : Nat} {f : Nat → Int} {n : Nat} {m : Nat → Bool} (hl : l = il m n) (h1 : ∀ j, j < nw → ∃ c i : Nat, l[c]? = some i ∧ f j = i) (h2 : ∀ c i : Nat, l[c]? = some i → ∃ j, j < nw ∧ f j = i) {i : Nat} (hi : i < n) : wantB nw f i = m i := by
  subst hl
  unfold wantB
  cases hm : m i with
  | true =>
    obtain ⟨c, hc⟩ := il_of hi hm
    obtain ⟨j, hj, hf⟩ := h2 c i hc
    exact decide_eq_true ⟨j, hj, hf⟩
  | false =>
    refine decide_eq_false ?_
    rintro ⟨j, hj, hf⟩
    obtain ⟨c, i', hc, hf'⟩ := h1 j hj
    have : i' = i := by omega
    subst this
    have := (il_at hc).2
    rw [hm] at this; cases this
theorem okB_of {l : List Nat} {nw : Nat} {f : Nat → Int} {n : Nat} {m : Nat → Bool} (hl : l = il m n) (h1 : ∀ j, j < nw → ∃ c i : Nat, l[c]? = some i ∧ f j = i) : okB nw f n = true :=
  decide_eq_true fun j hj => by
    obtain ⟨c, i, hc, hf⟩ := h1 j hj
    subst hl
    have := (il_at hc).1
    omega
/-- Each of them twice. -/
def fd (l : List Nat) (j : Nat) : Int := (l.getD (j / 2) 0 : Nat)
def fs (l : List Nat) (j : Nat) : Int := (l.getD j 0 : Nat)
theorem fd_ok (l : List Nat) : (∀ j, j < 2 * l.length → ∃ c i : Nat, l[c]? = some i ∧ fd l j = i) ∧ (∀ c i : Nat, l[c]? = some i → ∃ j, j < 2 * l.length ∧ fd l j = i) := by
  constructor
  · intro j hj
    have h : j / 2 < l.length := by omega
    exact ⟨j / 2, l[j / 2], List.getElem?_eq_getElem h, by simp [fd, List.getD, List.getElem?_eq_getElem h]⟩
  · intro c i h
    obtain ⟨hc, _⟩ := List.getElem?_eq_some_iff.1 h
    exact ⟨2 * c, by omega, by simp [fd, List.getD, h]⟩
theorem fs_ok (l : List Nat) : (∀ j, j < l.length → ∃ c i : Nat, l[c]? = some i ∧ fs l j = i) ∧ (∀ c i : Nat, l[c]? = some i → ∃ j, j < l.length ∧ fs l j = i) := by
  constructor
  · intro j h
    exact ⟨j, l[j], List.getElem?_eq_getElem h, by simp [fs, List.getD, List.getElem?_eq_getElem h]⟩
  · intro c i h
    obtain ⟨hc, _⟩ := List.getElem?_eq_some_iff.1 h
    exact ⟨c, hc, by simp [fs, List.getD, h]⟩
theorem rd_dv {w : World} {A : Option Addr} {cap : Nat} {l : List Nat} (h : Lis w 3 1 (.slice A (2 * l.length) cap) (2 * l.length) (dv l)) : Rd w A (2 * l.length) (fun j => .int .i64 (fd l j)) :=
  lis_rd h fun j hj => by
    have h : j / 2 < l.length := by omega
    have := dv_at (List.getElem?_eq_getElem h)
    rw [this]; simp [fd, List.getD, List.getElem?_eq_getElem h]
theorem rd_sv {w : World} {A : Option Addr} {cap : Nat} {l : List Nat} (h : Lis w 3 1 (.slice A l.length cap) l.length (sv l)) : Rd w A l.length (fun j => .int .i64 (fs l j)) :=
  lis_rd h fun j hj => by
    have := sv_at (List.getElem?_eq_getElem hj)
    rw [this]; simp [fs, List.getD, List.getElem?_eq_getElem hj]
end Go.Proofs.Ytabocojmobbpaaa
