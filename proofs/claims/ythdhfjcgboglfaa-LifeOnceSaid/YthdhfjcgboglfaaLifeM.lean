/- Layer 19: a book of requests, as a state; a book in memory. -/
import Derived.Test.YthdhfjcgboglfaaWhN
import Derived.Test.YthdhfjcgboglfaaMapZ
namespace Go.Proofs.Ythdhfjcgboglfaa
open Go.RowKit
set_option linter.unusedVariables false
set_option maxRecDepth 100000
set_option maxHeartbeats 400000
/-- How a request came out. -/
structure Ft where
  id : Int
  kind : Int
  why : Int
deriving DecidableEq
abbrev Ft.cells (f : Ft) : Array Value := #[.int .i64 f.id, .int .i64 f.kind, .int .i64 f.why]
def fvs : List Ft → List Value
  | [] => []
  | f :: l => .int .i64 f.id :: .int .i64 f.kind :: .int .i64 f.why :: fvs l
theorem fvs_len : ∀ l, (fvs l).length = l.length * 3
  | [] => rfl
  | f :: l => by simp only [fvs, List.length_cons, fvs_len l]; omega
theorem fvs_app : ∀ l m, fvs (l ++ m) = fvs l ++ fvs m
  | [], m => rfl
  | f :: l, m => by simp only [List.cons_append, fvs, fvs_app l m]
theorem fvs_at : ∀ (l : List Ft) (i : Nat) (f : Ft), l[i]? = some f → (fvs l)[i * 3]? = some (.int .i64 f.id) ∧ (fvs l)[i * 3 + 1]? = some (.int .i64 f.kind) ∧ (fvs l)[i * 3 + 2]? = some (.int .i64 f.why)
  | [], i, f, h => by simp at h
  | g :: l, 0, f, h => by
    simp at h
    subst h
    exact ⟨rfl, rfl, rfl⟩
  | g :: l, i + 1, f, h => by
    have h2 := fvs_at l i f (by simpa using h)
    rw [show (i + 1) * 3 = i * 3 + 3 by omega]
    exact ⟨by simpa [fvs] using h2.1, by rw [show i * 3 + 3 + 1 = i * 3 + 1 + 3 by omega]; simpa [fvs] using h2.2.1, by rw [show i * 3 + 3 + 2 = i * 3 + 2 + 3 by omega]; simpa [fvs] using h2.2.2⟩
/-- Who has which timer, and what isn't told yet. -/
structure Bk where
  cost : Int
  now : Int
  op : Nat → Option (Int × Int)
  un : List Ft
def Bk.new (c : Int) : Bk := ⟨c, 0, fun _ => none, []⟩
def wsO (op : Nat → Option (Int × Int)) (k : Nat) : Int := match op k with
  | some x => x.1
  | none => -1
def Bk.T (s : Bk) : Int → Option Int := fun i => if 0 ≤ i ∧ i < 64 then (s.op i.toNat).map (fun x => x.2 - s.cost) else none
/-- The timer of a request. -/
def slotO (op : Nat → Option (Int × Int)) (id : Int) : Option Nat := (List.range 64).find? fun k => decide ((op k).map Prod.fst = some id)
def mapF (op : Nat → Option (Int × Int)) (k : Nat) : Value := .agg #[.int .i64 (k : Int), .int .u64 ((op k).getD (0, 0)).2]
def mapO (op : Nat → Option (Int × Int)) (id : Int) : Option Value := (slotO op id).map (mapF op)
/-- How many are open. -/
def cntO (op : Nat → Option (Int × Int)) : Nat := cf (fun k => (op k).isSome) 64
def updO (op : Nat → Option (Int × Int)) (k : Nat) (x : Option (Int × Int)) : Nat → Option (Int × Int) := fun j => if j = k then x else op j
theorem updO_self (op : Nat → Option (Int × Int)) (k : Nat) (x : Option (Int × Int)) : updO op k x k = x := if_pos rfl
theorem updO_ne (op : Nat → Option (Int × Int)) {k j : Nat} (x : Option (Int × Int)) (h : j ≠ k) : updO op k x j = op j := if_neg h
structure UqO (op : Nat → Option (Int × Int)) : Prop where
  lt : ∀ k x, op k = some x → k < 64
  uq : ∀ j k x y, op j = some x → op k = some y → x.1 = y.1 → j = k
theorem slot_some {op : Nat → Option (Int × Int)} {id : Int} {k : Nat} (h : slotO op id = some k) : k < 64 ∧ ∃ d, op k = some (id, d) := by
  unfold slotO at h
  have h1 := List.find?_some h
  have h2 := List.mem_of_find?_eq_some h
  have h1 := of_decide_eq_true h1
  refine ⟨by simpa using h2, ?_⟩
  cases ho : op k with
  | none => rw [ho] at h1; cases h1
  | some x =>
    obtain ⟨a, d⟩ := x
    rw [ho] at h1
    injection h1 with h1
    dsimp only at h1
    subst h1
    exact ⟨d, rfl⟩
theorem slot_none {op : Nat → Option (Int × Int)} {id : Int} (h : slotO op id = none) {k : Nat} (hk : k < 64) {d : Int} : op k ≠ some (id, d) := fun e => by
  unfold slotO at h
  have := List.find?_eq_none.1 h k (by simpa using hk)
  apply this
  refine decide_eq_true ?_
  rw [e]; rfl
section
variable {op : Nat → Option (Int × Int)} {id d i : Int} {k : Nat}
theorem UqO.slot (U : UqO op) (h : op k = some (id, d)) : slotO op id = some k := by
  cases hs : slotO op id with
  | none => exact absurd h (slot_none hs (U.lt k _ h))
  | some j =>
    obtain ⟨_, d', hj⟩ := slot_some hs
    rw [U.uq j k _ _ hj h rfl]
theorem UqO.put (U : UqO op) (hk : k < 64) (hid : slotO op id = none) : UqO (updO op k (some (id, d))) := by
  have no : ∀ b y, op b = some y → y.1 ≠ id := fun b y hb e => by
    obtain ⟨y1, y2⟩ := y
    dsimp only at e
    subst e
    exact slot_none hid (U.lt b _ hb) hb
  refine ⟨fun a x ha => ?_, fun a b x y ha hb e => ?_⟩
  · by_cases e : a = k
    · rw [e]; exact hk
    · rw [updO_ne op _ e] at ha; exact U.lt a x ha
  · by_cases e1 : a = k
    · by_cases e2 : b = k
      · rw [e1, e2]
      · subst e1
        rw [updO_self] at ha; rw [updO_ne op _ e2] at hb
        injection ha with ha
        subst ha
        exact absurd e.symm (no b y hb)
    · rw [updO_ne op _ e1] at ha
      by_cases e2 : b = k
      · subst e2
        rw [updO_self] at hb
        injection hb with hb
        subst hb
        exact absurd e (no a x ha)
      · rw [updO_ne op _ e2] at hb; exact U.uq a b x y ha hb e
theorem UqO.del (U : UqO op) (k : Nat) : UqO (updO op k none) := by
  have old : ∀ a x, updO op k none a = some x → op a = some x := fun a x ha => by
    by_cases e : a = k
    · subst e; rw [updO_self] at ha; cases ha
    · rwa [updO_ne op _ e] at ha
  exact ⟨fun a x ha => U.lt a x (old a x ha), fun a b x y ha hb e => U.uq a b x y (old a x ha) (old b y hb) e⟩
theorem UqO.slot_put (U : UqO op) (hk : k < 64) (hn : op k = none) (hid : slotO op id = none) (i : Int) : slotO (updO op k (some (id, d))) i = if i = id then some k else slotO op i := by
  have U2 := U.put (d := d) hk hid
  by_cases e : i = id
  · subst e
    rw [if_pos rfl]
    exact U2.slot (d := d) (updO_self op k _)
  · rw [if_neg e]
    cases hs : slotO op i with
    | some j =>
      obtain ⟨_, d', hj⟩ := slot_some hs
      have hne : j ≠ k := fun h => by rw [h, hn] at hj; cases hj
      exact U2.slot (d := d') (by rw [updO_ne op _ hne]; exact hj)
    | none =>
      cases hs2 : slotO (updO op k (some (id, d))) i with
      | none => rfl
      | some j =>
        obtain ⟨hj6, d', hj⟩ := slot_some hs2
        by_cases h : j = k
        · subst h; rw [updO_self] at hj; injection hj with hj; injection hj with hj; exact absurd hj.symm e
        · rw [updO_ne op _ h] at hj; exact absurd hj (slot_none hs hj6)
theorem UqO.slot_del (U : UqO op) (h : op k = some (id, d)) (i : Int) : slotO (updO op k none) i = if i = id then none else slotO op i := by
  have U2 := U.del k
  by_cases e : i = id
  · subst e
    rw [if_pos rfl]
    cases hs : slotO (updO op k none) i with
    | none => rfl
    | some j =>
      obtain ⟨_, d', hj⟩ := slot_some hs
      by_cases h2 : j = k
      · subst h2; rw [updO_self] at hj; cases hj
      · rw [updO_ne op _ h2] at hj; exact absurd (U.uq j k _ _ hj h rfl) h2
  · rw [if_neg e]
    cases hs : slotO op i with
    | some j =>
      obtain ⟨_, d', hj⟩ := slot_some hs
      have hne : j ≠ k := fun h2 => by rw [h2, h] at hj; injection hj with hj; injection hj with hj; exact e hj.symm
      exact U2.slot (d := d') (by rw [updO_ne op _ hne]; exact hj)
    | none =>
      cases hs2 : slotO (updO op k none) i with
      | none => rfl
      | some j =>
        obtain ⟨hj6, d', hj⟩ := slot_some hs2
        by_cases h2 : j = k
        · subst h2; rw [updO_self] at hj; cases hj
        · rw [updO_ne op _ h2] at hj; exact absurd hj (slot_none hs hj6)
theorem cntO_put (hk : k < 64) (hn : op k = none) (x : Int × Int) : cntO (updO op k (some x)) = cntO op + 1 := by
  have h := (cf_upd (fun k => (op k).isSome) k true 64).1 hk
  rw [hn] at h
  have e : cntO (updO op k (some x)) = cf (fun j => if j = k then true else (op j).isSome) 64 := cf_like fun j hj => by
    unfold updO; split <;> rfl
  rw [e]; unfold cntO
  simpa using h
theorem cntO_del (hk : k < 64) {x : Int × Int} (hn : op k = some x) : cntO (updO op k none) + 1 = cntO op := by
  have h := (cf_upd (fun k => (op k).isSome) k false 64).1 hk
  rw [hn] at h
  have e : cntO (updO op k none) = cf (fun j => if j = k then false else (op j).isSome) 64 := cf_like fun j hj => by
    unfold updO; split <;> rfl
  rw [e]; unfold cntO
  simpa using h
/-- What the map has. -/
theorem mapO_put (U : UqO op) (hk : k < 64) (hn : op k = none) (hid : slotO op id = none) : mapO (updO op k (some (id, d))) = updI (mapO op) id (some (.agg #[.int .i64 (k : Int), .int .u64 d])) := by
  funext i
  show (slotO (updO op k (some (id, d))) i).map (mapF (updO op k (some (id, d)))) = if i = id then _ else (slotO op i).map (mapF op)
  rw [U.slot_put hk hn hid i]
  by_cases e : i = id
  · rw [if_pos e, if_pos e, Option.map_some]
    unfold mapF; rw [updO_self]; rfl
  · rw [if_neg e, if_neg e]
    cases hs : slotO op i with
    | none => rfl
    | some j =>
      obtain ⟨_, d', hj⟩ := slot_some hs
      have hne : j ≠ k := fun h => by rw [h, hn] at hj; cases hj
      rw [Option.map_some, Option.map_some]
      unfold mapF; rw [updO_ne op _ hne]
theorem mapO_del (U : UqO op) (h : op k = some (id, d)) : mapO (updO op k none) = updI (mapO op) id none := by
  funext i
  show (slotO (updO op k none) i).map (mapF (updO op k none)) = if i = id then _ else (slotO op i).map (mapF op)
  rw [U.slot_del h i]
  by_cases e : i = id
  · rw [if_pos e, if_pos e]; rfl
  · rw [if_neg e, if_neg e]
    cases hs : slotO op i with
    | none => rfl
    | some j =>
      obtain ⟨_, d', hj⟩ := slot_some hs
      have hne : j ≠ k := fun h2 => by rw [h2, h] at hj; injection hj with hj; injection hj with hj; exact e hj.symm
      rw [Option.map_some, Option.map_some]
      unfold mapF; rw [updO_ne op _ hne]
end
structure Bk.ok (s : Bk) : Prop where
  c0 : 1 ≤ s.cost
  c1 : s.cost ≤ 1000
  n0 : 0 ≤ s.now
  U : UqO s.op
  bd : ∀ k x, s.op k = some x → 0 ≤ x.1 ∧ x.1 ≤ 65535 ∧ s.now < x.2 - s.cost ∧ x.2 < 4611686018427387904
/-- The cells of a book. -/
def bkV (s : Bk) (cw mb : Nat) (A : Option Addr) (cap : Nat) (j : Nat) : Value :=
  if j = 0 then .int .u64 s.cost else if j = 1 then .pointer (some ⟨cw, 0, none⟩) else if j = 2 then .map (some mb) else if j < 67 then .int .i64 (wsO s.op (j - 3)) else .slice A s.un.length cap
def BookL (b cw mb : Nat) (A : Option Addr) (cap : Nat) (s : Bk) : List Res :=
  [ArrR b 65 68 (bkV s cw mb A cap), WheelR cw s.now s.T, MapZR Try.prog 3 mb (cntO s.op) (mapO s.op), LisR 50 3 (.slice A s.un.length cap) s.un.length (fvs s.un)]
/-- A book as one thing. -/
def BookR (b : Nat) (s : Bk) : Res := fun w S => s.ok ∧ ∃ cw mb A cap, Star (BookL b cw mb A cap s) w S
theorem BookR.ok (b : Nat) (s : Bk) : Ok (BookR b s) :=
  ⟨fun {w S} h => by obtain ⟨_, cw, mb, A, cap, h⟩ := h; exact (Star.ok _).lt h, fun {w w' S} h hk => by obtain ⟨o, cw, mb, A, cap, h⟩ := h; exact ⟨o, cw, mb, A, cap, (Star.ok _).frame h hk⟩⟩
end Go.Proofs.Ythdhfjcgboglfaa
