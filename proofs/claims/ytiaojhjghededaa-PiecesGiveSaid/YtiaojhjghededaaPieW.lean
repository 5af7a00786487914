/- Layer 8: lists of pieces that are asked about. -/
import Derived.Test.YtiaojhjghededaaPieV
import Derived.Test.YtiaojhjghededaaOpen
namespace Go.Proofs.Ytiaojhjghededaa
open Go.RowKit
set_option linter.unusedVariables false
set_option maxRecDepth 100000
set_option maxHeartbeats 1600000
theorem rdp_rdm {w : World} {A : Option Addr} {n : Nat} {V : Nat → Nat → Value} {T : Nat → Pc} (rd : RdM w A n 4 V) (hV : ∀ j, j < n → V j 0 = .int .i64 (T j).s ∧ V j 1 = .int .u64 (T j).g ∧ V j 2 = .int .i64 (T j).f ∧ V j 3 = .int .i64 (T j).m) : RdP w A ((List.range n).map T) := fun i p hp => by
  have hi : i < n := by have := (List.getElem?_eq_some_iff.1 hp).1; simpa using this
  obtain rfl : T i = p := by simpa [hi] using hp
  obtain ⟨b, off, e, h1, h2⟩ := rd (by omega)
  obtain ⟨v0, v1, v2, v3⟩ := hV i hi
  refine ⟨b, off, e, h1, ?_, ?_, ?_, ?_⟩
  · have := h2 i hi 0 (by omega); rw [v0] at this; exact this
  · have := h2 i hi 1 (by omega); rw [v1, ← Nat.add_assoc] at this; exact this
  · have := h2 i hi 2 (by omega); rw [v2, ← Nat.add_assoc] at this; exact this
  · have := h2 i hi 3 (by omega); rw [v3, ← Nat.add_assoc] at this; exact this
/-- The first pieces are such as are gone through. -/
def goodP (ps : List Pc) (i : Nat) : Prop := ∀ (j : Nat) (p : Pc), j < i → ps[j]? = some p → (0 ≤ p.m ∧ p.m ≤ 60) ∧ (0 ≤ p.f ∧ p.f ≤ 1048576)
def totG (ps : List Pc) (i : Nat) : Nat := totP (ps.take i)
theorem totG_succ {ps : List Pc} {i : Nat} {p : Pc} (h : ps[i]? = some p) : totG ps (i + 1) = totG ps i + p.m.toNat := by
  unfold totG
  rw [List.take_add_one, h]
  exact totP_snoc _ _
theorem getD_of {ps : List Pc} {i : Nat} {p : Pc} (h : ps[i]? = some p) : ps.getD i ⟨0, 0, 0, 0⟩ = p := by simp [List.getD, h]
theorem wrap64_id {z : Int} (h : -9223372036854775808 ≤ z ∧ z ≤ 9223372036854775807) : wrap64 z = z := IntWalk.wrap64_in _ h
theorem begP_good {ps : List Pc} : ∀ i, i ≤ ps.length → i ≤ 16 → goodP ps i → begP ps i = (totG ps i : Nat) ∧ totG ps i ≤ 60 * i
  | 0, _, _, _ => ⟨rfl, Nat.le_refl _⟩
  | i + 1, h1, h2, h3 => by
    obtain ⟨e1, e2⟩ := begP_good i (by omega) (by omega) (fun j p hj hp => h3 j p (by omega) hp)
    obtain ⟨p, hp⟩ : ∃ p, ps[i]? = some p := ⟨ps[i], List.getElem?_eq_getElem (by omega)⟩
    obtain ⟨⟨m0, m1⟩, -⟩ := h3 i p (by omega) hp
    rw [totG_succ hp]
    constructor
    · show wrap64 (begP ps i + if (ps.getD i ⟨0, 0, 0, 0⟩).m < 0 then 0 else (ps.getD i ⟨0, 0, 0, 0⟩).m) = _
      rw [getD_of hp, if_neg (by omega), e1, wrap64_id (by omega)]
      omega
    · omega
theorem totG_mono {ps : List Pc} {i j : Nat} (h : i ≤ j) : totG ps i ≤ totG ps j := by
  induction j with
  | zero => obtain rfl : i = 0 := by omega
            exact Nat.le_refl _
  | succ j ih =>
    by_cases e : i = j + 1
    · rw [e]; exact Nat.le_refl _
    · refine Nat.le_trans (ih (by omega)) ?_
      unfold totG
      rw [List.take_add_one]
      cases hp : ps[j]? with
      | none => simp
      | some p => rw [show (some p).toList = [p] from rfl, totP_snoc]; omega
/-- No piece ahead has a byte that stands behind them. -/
theorem noHit_good {ps : List Pc} {i : Nat} (h1 : i ≤ ps.length) (h2 : i ≤ 16) (h3 : goodP ps i) {a : Int} (ha : a < 0 ∨ (totG ps i : Int) ≤ a ∧ a ≤ 1000000) : ∀ x ∈ comeP ps i, hitX a x = false := by
  intro x hx
  obtain ⟨j, hj, rfl⟩ := List.mem_map.1 hx
  have hj : j < i := List.mem_range.1 hj
  obtain ⟨p, hp⟩ : ∃ p, ps[j]? = some p := ⟨ps[j], List.getElem?_eq_getElem (by omega)⟩
  obtain ⟨e1, e2⟩ := begP_good (ps := ps) j (by omega) (by omega) (fun k q hk hq => h3 k q (by omega) hq)
  obtain ⟨⟨m0, m1⟩, -⟩ := h3 j p hj hp
  have e3 : totG ps (j + 1) ≤ totG ps i := totG_mono (by omega)
  rw [totG_succ hp] at e3
  unfold hitX
  dsimp only
  rw [getD_of hp, e1]
  rcases ha with ha | ⟨ha, hb⟩
  · rw [decide_eq_false (by omega), Bool.false_and]
  · rw [wrap64_id (by omega), decide_eq_false (p := a - _ < _) (by omega), Bool.and_false]
theorem find_good {ps : List Pc} {i : Nat} {p : Pc} (h2 : i < 16) (h3 : goodP ps (i + 1)) (hp : ps[i]? = some p) {k : Nat} (hk : (k : Int) < p.m) : findX ((totG ps i : Int) + k) (comeP ps ps.length) = ((i : Int), p.f + k, 0) := by
  have hi : i < ps.length := (List.getElem?_eq_some_iff.1 hp).1
  have h3' : goodP ps i := fun j q hj hq => h3 j q (by omega) hq
  obtain ⟨e1, e2⟩ := begP_good (ps := ps) i (by omega) (by omega) h3'
  obtain ⟨⟨m0, m1⟩, f0, f1⟩ := h3 i p (by omega) hp
  obtain ⟨r, hr⟩ := comeP_pre ps (k := i + 1) (by omega)
  rw [hr, comeP_succ, getD_of hp, List.append_assoc, List.singleton_append, findX_some (noHit_good (by omega) (by omega) h3' (Or.inr ⟨by omega, by omega⟩)), comeP_len, e1]
  · dsimp only
    rw [wrap64_id (z := p.f + _) (by omega), wrap64_id (by omega)]
    congr 2
    omega
  · unfold hitX
    dsimp only
    rw [e1, wrap64_id (by omega), decide_eq_true (by omega), decide_eq_true (by omega)]
    rfl
theorem find_none {ps : List Pc} (h2 : ps.length ≤ 16) (h3 : goodP ps ps.length) {a : Int} (ha : a < 0 ∨ (totG ps ps.length : Int) ≤ a ∧ a ≤ 1000000) : findX a (comeP ps ps.length) = (0, 0, 6) := findX_none (noHit_good (Nat.le_refl _) h2 h3 ha)
theorem len_good {ps : List Pc} (h2 : ps.length ≤ 16) (h3 : goodP ps ps.length) : lenP ps = (totG ps ps.length : Nat) := by
  have : ∀ i, i ≤ ps.length → sumX (comeP ps i) = (totG ps i : Nat) := by
    intro i
    induction i with
    | zero => intro _; rfl
    | succ i ih =>
      intro hi
      obtain ⟨p, hp⟩ : ∃ p, ps[i]? = some p := ⟨ps[i], List.getElem?_eq_getElem (by omega)⟩
      obtain ⟨⟨m0, m1⟩, -⟩ := h3 i p (by omega) hp
      rw [comeP_succ, sumX_snoc, ih (by omega), totG_succ hp, getD_of hp]
      unfold clipP
      dsimp only
      rw [if_neg (show ¬ p.m < 0 by omega), if_pos (by omega)]
      omega
  exact this _ (Nat.le_refl _)
theorem mayOne : mayC 1 (fun _ => 1) (fun _ => 1) := by decide
theorem flatOne : flatC (fun _ => 1) (fun _ => 1) 1 = [1] := by decide
theorem okOne : POK 1 (fresh [1]) 2 := ⟨by omega, by omega, by omega, fun i hi => by
  obtain rfl : i = 0 := by omega
  decide⟩
end Go.Proofs.Ytiaojhjghededaa
