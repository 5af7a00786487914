/- Layer 19: a book of requests, as a state; a book in memory. Layer 19: a book: Count, Has; a request comes out. Layer 19: a book: a request comes out. Layer 19: a book as one thing: comesOut, Answer, Cancel, Count, Has. Layer 19: a book: the free timer; Open. Layer 19: a book: Open. Layer 19: a book: Open lets one in. Layer 19: a new book. -/
import Derived.Test.YtdjhpdacglojaaaGreatWhB
import Derived.Test.YtdjhpdacglojaaaGreatMapZ
import Derived.BigQuiet
import Derived.Deep.RegionLaw
import Derived.RegionTactic
import Derived.Deep.DeepCutAuto
import Derived.Test.YtdjhpdacglojaaaGreatTickC
import Derived.LoopTactic
namespace Go.Proofs.YtdjhpdacglojaaaGreat
open Go.RowKit
section
set_option linter.unusedVariables false
set_option maxRecDepth 100000
set_option maxHeartbeats 400000
/-- How a request came out. -/
structure Ft where
  id : Int
  kind : Int
  why : Int
deriving DecidableEq
abbrev Ft.cells (f : Ft) : Array Value := #[.int .i64 f.id, .int .i64 f.kind, .int .i64 f.why]
def fvs : List Ft → List Value
  | [] => []
  | f :: l => .int .i64 f.id :: .int .i64 f.kind :: .int .i64 f.why :: fvs l
theorem fvs_len : ∀ l, (fvs l).length = l.length * 3
  | [] => rfl
  | f :: l => by simp only [fvs, List.length_cons, fvs_len l]; omega
theorem fvs_app : ∀ l m, fvs (l ++ m) = fvs l ++ fvs m
  | [], m => rfl
  | f :: l, m => by simp only [List.cons_append, fvs, fvs_app l m]
theorem fvs_at : ∀ (l : List Ft) (i : Nat) (f : Ft), l[i]? = some f → (fvs l)[i * 3]? = some (.int .i64 f.id) ∧ (fvs l)[i * 3 + 1]? = some (.int .i64 f.kind) ∧ (fvs l)[i * 3 + 2]? = some (.int .i64 f.why)
  | [], i, f, h => by simp at h
  | g :: l, 0, f, h => by
    simp at h
    subst h
    exact ⟨rfl, rfl, rfl⟩
  | g :: l, i + 1, f, h => by
    have h2 := fvs_at l i f (by simpa using h)
    rw [show (i + 1) * 3 = i * 3 + 3 by omega]
    exact ⟨by simpa [fvs] using h2.1, by rw [show i * 3 + 3 + 1 = i * 3 + 1 + 3 by omega]; simpa [fvs] using h2.2.1, by rw [show i * 3 + 3 + 2 = i * 3 + 2 + 3 by omega]; simpa [fvs] using h2.2.2⟩
/-- Who has which timer, and what isn't told yet. -/
structure Bk where
  cost : Int
  now : Int
  op : Nat → Option (Int × Int)
  un : List Ft
def Bk.new (c : Int) : Bk := ⟨c, 0, fun _ => none, []⟩
def wsO (op : Nat → Option (Int × Int)) (k : Nat) : Int := match op k with
  | some x => x.1
  | none => -1
def Bk.T (s : Bk) : Int → Option Int := fun i => if 0 ≤ i ∧ i < 64 then (s.op i.toNat).map (fun x => x.2 - s.cost) else none
/-- The timer of a request. -/
def slotO (op : Nat → Option (Int × Int)) (id : Int) : Option Nat := (List.range 64).find? fun k => decide ((op k).map Prod.fst = some id)
def mapF (op : Nat → Option (Int × Int)) (k : Nat) : Value := .agg #[.int .i64 (k : Int), .int .u64 ((op k).getD (0, 0)).2]
def mapO (op : Nat → Option (Int × Int)) (id : Int) : Option Value := (slotO op id).map (mapF op)
/-- How many are open. -/
def cntO (op : Nat → Option (Int × Int)) : Nat := cf (fun k => (op k).isSome) 64
def updO (op : Nat → Option (Int × Int)) (k : Nat) (x : Option (Int × Int)) : Nat → Option (Int × Int) := fun j => if j = k then x else op j
theorem updO_self (op : Nat → Option (Int × Int)) (k : Nat) (x : Option (Int × Int)) : updO op k x k = x := if_pos rfl
theorem updO_ne (op : Nat → Option (Int × Int)) {k j : Nat} (x : Option (Int × Int)) (h : j ≠ k) : updO op k x j = op j := if_neg h
structure UqO (op : Nat → Option (Int × Int)) : Prop where
  lt : ∀ k x, op k = some x → k < 64
  uq : ∀ j k x y, op j = some x → op k = some y → x.1 = y.1 → j = k
theorem slot_some {op : Nat → Option (Int × Int)} {id : Int} {k : Nat} (h : slotO op id = some k) : k < 64 ∧ ∃ d, op k = some (id, d) := by
  unfold slotO at h
  have h1 := List.find?_some h
  have h2 := List.mem_of_find?_eq_some h
  have h1 := of_decide_eq_true h1
  refine ⟨by simpa using h2, ?_⟩
  cases ho : op k with
  | none => rw [ho] at h1; cases h1
  | some x =>
    obtain ⟨a, d⟩ := x
    rw [ho] at h1
    injection h1 with h1
    dsimp only at h1
    subst h1
    exact ⟨d, rfl⟩
theorem slot_none {op : Nat → Option (Int × Int)} {id : Int} (h : slotO op id = none) {k : Nat} (hk : k < 64) {d : Int} : op k ≠ some (id, d) := fun e => by
  unfold slotO at h
  have := List.find?_eq_none.1 h k (by simpa using hk)
  apply this
  refine decide_eq_true ?_
  rw [e]; rfl
section
variable {op : Nat → Option (Int × Int)} {id d i : Int} {k : Nat}
theorem UqO.slot (U : UqO op) (h : op k = some (id, d)) : slotO op id = some k := by
  cases hs : slotO op id with
  | none => exact absurd h (slot_none hs (U.lt k _ h))
  | some j =>
    obtain ⟨_, d', hj⟩ := slot_some hs
    rw [U.uq j k _ _ hj h rfl]
theorem UqO.put (U : UqO op) (hk : k < 64) (hid : slotO op id = none) : UqO (updO op k (some (id, d))) := by
  have no : ∀ b y, op b = some y → y.1 ≠ id := fun b y hb e => by
    obtain ⟨y1, y2⟩ := y
    dsimp only at e
    subst e
    exact slot_none hid (U.lt b _ hb) hb
  refine ⟨fun a x ha => ?_, fun a b x y ha hb e => ?_⟩
  · by_cases e : a = k
    · rw [e]; exact hk
    · rw [updO_ne op _ e] at ha; exact U.lt a x ha
  · by_cases e1 : a = k
    · by_cases e2 : b = k
      · rw [e1, e2]
      · subst e1
        rw [updO_self] at ha; rw [updO_ne op _ e2] at hb
        injection ha with ha
        subst ha
        exact absurd e.symm (no b y hb)
    · rw [updO_ne op _ e1] at ha
      by_cases e2 : b = k
      · subst e2
        rw [updO_self] at hb
        injection hb with hb
        subst hb
        exact absurd e (no a x ha)
      · rw [updO_ne op _ e2] at hb; exact U.uq a b x y ha hb e
theorem UqO.del (U : UqO op) (k : Nat) : UqO (updO op k none) := by
  have old : ∀ a x, updO op k none a = some x → op a = some x := fun a x ha => by
    by_cases e : a = k
    · subst e; rw [updO_self] at ha; cases ha
    · rwa [updO_ne op _ e] at ha
  exact ⟨fun a x ha => U.lt a x (old a x ha), fun a b x y ha hb e => U.uq a b x y (old a x ha) (old b y hb) e⟩
theorem UqO.slot_put (U : UqO op) (hk : k < 64) (hn : op k = none) (hid : slotO op id = none) (i : Int) : slotO (updO op k (some (id, d))) i = if i = id then some k else slotO op i := by
  have U2 := U.put (d := d) hk hid
  by_cases e : i = id
  · subst e
    rw [if_pos rfl]
    exact U2.slot (d := d) (updO_self op k _)
  · rw [if_neg e]
    cases hs : slotO op i with
    | some j =>
      obtain ⟨_, d', hj⟩ := slot_some hs
      have hne : j ≠ k := fun h => by rw [h, hn] at hj; cases hj
      exact U2.slot (d := d') (by rw [updO_ne op _ hne]; exact hj)
    | none =>
      cases hs2 : slotO (updO op k (some (id, d))) i with
      | none => rfl
      | some j =>
        obtain ⟨hj6, d', hj⟩ := slot_some hs2
        by_cases h : j = k
        · subst h; rw [updO_self] at hj; injection hj with hj; injection hj with hj; exact absurd hj.symm e
        · rw [updO_ne op _ h] at hj; exact absurd hj (slot_none hs hj6)
theorem UqO.slot_del (U : UqO op) (h : op k = some (id, d)) (i : Int) : slotO (updO op k none) i = if i = id then none else slotO op i := by
  have U2 := U.del k
  by_cases e : i = id
  · subst e
    rw [if_pos rfl]
    cases hs : slotO (updO op k none) i with
    | none => rfl
    | some j =>
      obtain ⟨_, d', hj⟩ := slot_some hs
      by_cases h2 : j = k
      · subst h2; rw [updO_self] at hj; cases hj
      · rw [updO_ne op _ h2] at hj; exact absurd (U.uq j k _ _ hj h rfl) h2
  · rw [if_neg e]
    cases hs : slotO op i with
    | some j =>
      obtain ⟨_, d', hj⟩ := slot_some hs
      have hne : j ≠ k := fun h2 => by rw [h2, h] at hj; injection hj with hj; injection hj with hj; exact e hj.symm
      exact U2.slot (d := d') (by rw [updO_ne op _ hne]; exact hj)
    | none =>
      cases hs2 : slotO (updO op k none) i with
      | none => rfl
      | some j =>
        obtain ⟨hj6, d', hj⟩ := slot_some hs2
        by_cases h2 : j = k
        · subst h2; rw [updO_self] at hj; cases hj
        · rw [updO_ne op _ h2] at hj; exact absurd hj (slot_none hs hj6)
theorem cntO_put (hk : k < 64) (hn : op k = none) (x : Int × Int) : cntO (updO op k (some x)) = cntO op + 1 := by
  have h := (cf_upd (fun k => (op k).isSome) k true 64).1 hk
  rw [hn] at h
  have e : cntO (updO op k (some x)) = cf (fun j => if j = k then true else (op j).isSome) 64 := cf_like fun j hj => by
    unfold updO; split <;> rfl
  rw [e]; unfold cntO
  simpa using h
theorem cntO_del (hk : k < 64) {x : Int × Int} (hn : op k = some x) : cntO (updO op k none) + 1 = cntO op := by
  have h := (cf_upd (fun k => (op k).isSome) k false 64).1 hk
  rw [hn] at h
  have e : cntO (updO op k none) = cf (fun j => if j = k then false else (op j).isSome) 64 := cf_like fun j hj => by
    unfold updO; split <;> rfl
  rw [e]; unfold cntO
  simpa using h
/-- What the map has. -/
theorem mapO_put (U : UqO op) (hk : k < 64) (hn : op k = none) (hid : slotO op id = none) : mapO (updO op k (some (id, d))) = updI (mapO op) id (some (.agg #[.int .i64 (k : Int), .int .u64 d])) := by
  funext i
  show (slotO (updO op k (some (id, d))) i).map (mapF (updO op k (some (id, d)))) = if i = id then _ else (slotO op i).map (mapF op)
  rw [U.slot_put hk hn hid i]
  by_cases e : i = id
  · rw [if_pos e, if_pos e, Option.map_some]
    unfold mapF; rw [updO_self]; rfl
  · rw [if_neg e, if_neg e]
    cases hs : slotO op i with
    | none => rfl
    | some j =>
      obtain ⟨_, d', hj⟩ := slot_some hs
      have hne : j ≠ k := fun h => by rw [h, hn] at hj; cases hj
      rw [Option.map_some, Option.map_some]
      unfold mapF; rw [updO_ne op _ hne]
theorem mapO_del (U : UqO op) (h : op k = some (id, d)) : mapO (updO op k none) = updI (mapO op) id none := by
  funext i
  show (slotO (updO op k none) i).map (mapF (updO op k none)) = if i = id then _ else (slotO op i).map (mapF op)
  rw [U.slot_del h i]
  by_cases e : i = id
  · rw [if_pos e, if_pos e]; rfl
  · rw [if_neg e, if_neg e]
    cases hs : slotO op i with
    | none => rfl
    | some j =>
      obtain ⟨_, d', hj⟩ := slot_some hs
      have hne : j ≠ k := fun h2 => by rw [h2, h] at hj; injection hj with hj; injection hj with hj; exact e hj.symm
      rw [Option.map_some, Option.map_some]
      unfold mapF; rw [updO_ne op _ hne]
end
structure Bk.ok (s : Bk) : Prop where
  c0 : 1 ≤ s.cost
  c1 : s.cost ≤ 1000
  n0 : 0 ≤ s.now
  U : UqO s.op
  bd : ∀ k x, s.op k = some x → 0 ≤ x.1 ∧ x.1 ≤ 65535 ∧ s.now < x.2 - s.cost ∧ x.2 < 4611686018427387904
/-- The cells of a book. -/
def bkV (s : Bk) (cw mb : Nat) (A : Option Addr) (cap : Nat) (j : Nat) : Value :=
  if j = 0 then .int .u64 s.cost else if j = 1 then .pointer (some ⟨cw, 0, none⟩) else if j = 2 then .map (some mb) else if j < 67 then .int .i64 (wsO s.op (j - 3)) else .slice A s.un.length cap
def BookL (b cw mb : Nat) (A : Option Addr) (cap : Nat) (s : Bk) : List Res :=
  [ArrR b 218 68 (bkV s cw mb A cap), WheelR cw s.now s.T, MapZR Tryz.prog 3 mb (cntO s.op) (mapO s.op), LisR 82 3 (.slice A s.un.length cap) s.un.length (fvs s.un)]
/-- A book as one thing. -/
def BookR (b : Nat) (s : Bk) : Res := fun w S => s.ok ∧ ∃ cw mb A cap, Star (BookL b cw mb A cap s) w S
theorem BookR.ok (b : Nat) (s : Bk) : Ok (BookR b s) :=
  ⟨fun {w S} h => by obtain ⟨_, cw, mb, A, cap, h⟩ := h; exact (Star.ok _).lt h, fun {w w' S} h hk => by obtain ⟨o, cw, mb, A, cap, h⟩ := h; exact ⟨o, cw, mb, A, cap, (Star.ok _).frame h hk⟩⟩
end
section
set_option linter.unusedVariables false
set_option maxRecDepth 100000
set_option maxHeartbeats 2000000
theorem YtdjhpdacglojaaaGreatzOpen (W : World) : (zeroValue 212).run Tryz.prog W = .ok (.agg #[.int .i64 0, .int .u64 0]) W := by kernel_rfl
theorem YtdjhpdacglojaaaGreatiFt : (Tryz.prog.info? 82).map (fun i => (i.zero, i.size, i.bytes)) = some (some (.agg #[.int .i64 0, .int .i64 0, .int .i64 0]), 3, 24) := by kernel_rfl
theorem info3l {P : Program} {t : TypeId} {z : Value} {s b : Nat} (h : (P.info? t).map (fun i => (i.zero, i.size, i.bytes)) = some (some z, s, b)) : ∃ i, P.info? t = some i ∧ i.zero = some z ∧ i.size = s ∧ i.bytes = b := by
  cases hi : P.info? t with
  | none => rw [hi] at h; cases h
  | some i => rw [hi] at h; simp at h; exact ⟨i, rfl, h.1, h.2.1, h.2.2⟩
def deadO (op : Nat → Option (Int × Int)) (id : Int) : Int := match slotO op id with
  | some k => ((op k).getD (0, 0)).2
  | none => 0
section
variable {w0 w w' : World} {S0 : Nat → Prop} {L X : List Res} {b cw mb cap : Nat} {A : Option Addr} {s : Bk} {id : Int}
theorem bk_cell (H : St w0 S0 w (BookL b cw mb A cap s ++ X)) {j : Nat} (hj : j < 68) : w.cell? ⟨b, j, none⟩ = some (bkV s cw mb A cap j) := H.arr_cell 0 rfl hj
theorem bk_frozen (H : St w0 S0 w (BookL b cw mb A cap s ++ X)) (j : Nat) : w.frozen? ⟨b, j, none⟩ = false := H.arr_frozen 0 rfl j
theorem bk_look (H : St w0 S0 w (BookL b cw mb A cap s ++ X)) (hid : wfI id) : (Instr.lookup 215 (.map (some mb)) (.int .i64 id) true).run Tryz.prog w = .ok (.tuple #[(mapO s.op id).getD (.agg #[.int .i64 0, .int .u64 0]), .bool (slotO s.op id).isSome]) w := by
  have h := (H.mapz 2 rfl).mapi.look Tryz.underlying3 Tryz.underlying215 (YtdjhpdacglojaaaGreatzOpen w) hid
  have e : (mapO s.op id).isSome = (slotO s.op id).isSome := by unfold mapO; simp
  rw [e] at h; exact h
theorem lHas_c (H : St w0 S0 w (BookL b cw mb A cap s ++ X)) (hid : wfI id) : Calls Tryz.prog 79 #[.pointer (some ⟨b, 0, none⟩), .int .i64 id] w fun e w' => e = .returned (.tuple #[.int .u64 (deadO s.op id), .bool (slotO s.op id).isSome]) ∧ St w0 S0 w' (BookL b cw mb A cap s ++ X) := by
  have c2 := bk_cell H (j := 2) (by omega)
  unfold bkV at c2
  rw [if_neg (by omega), if_neg (by omega), if_pos rfl] at c2
  have lk := bk_look H hid
  have HH := Lib.hid H
  clear H
  cases hs : slotO s.op id with
  | none =>
    have e1 : deadO s.op id = 0 := by unfold deadO; rw [hs]
    have e2 : mapO s.op id = none := by unfold mapO; rw [hs]; rfl
    rw [hs, e2] at lk
    rw [e1]
    have lk : (Instr.lookup 215 (.map (some mb)) (.int .i64 id) true).run Tryz.prog w = .ok (.tuple #[.agg #[.int .i64 0, .int .u64 0], .bool false]) w := lk
    clear hs e1 e2
    go_enter Tryz.func79, Tryz.ntmps79
    go_wp2_with fail
    go_ret2
    exact ⟨rfl, HH.out.alloc _⟩
  | some k =>
    obtain ⟨d, hd⟩ : ∃ d, deadO s.op id = d := ⟨_, rfl⟩
    have e2 : mapO s.op id = some (.agg #[.int .i64 (k : Int), .int .u64 d]) := by
      unfold mapO; rw [hs, ← hd]; unfold deadO; rw [hs]; rfl
    rw [hs, e2] at lk
    rw [hd]
    have lk : (Instr.lookup 215 (.map (some mb)) (.int .i64 id) true).run Tryz.prog w = .ok (.tuple #[.agg #[.int .i64 (k : Int), .int .u64 d], .bool true]) w := lk
    clear hs e2 hd
    go_enter Tryz.func79, Tryz.ntmps79
    go_wp2_with fail
    go_ret2
    exact ⟨rfl, HH.out.alloc _⟩
end
end
section
set_option linter.unusedVariables false
set_option maxRecDepth 100000
set_option maxHeartbeats 4000000
theorem fvs_one (f : Ft) : ∀ u ∈ fvs [f], u.oneCell' = true := fun u hu => by
  simp [fvs] at hu
  rcases hu with rfl | rfl | rfl <;> rfl
theorem Bk.T_del {s : Bk} {k : Nat} (hk : k < 64) : Bk.T { s with op := updO s.op k none } = updT s.T (k : Int) none := by
  funext i
  show (if 0 ≤ i ∧ i < 64 then (updO s.op k none i.toNat).map (fun x => x.2 - s.cost) else none) = if i = (k : Int) then none else (if 0 ≤ i ∧ i < 64 then (s.op i.toNat).map (fun x => x.2 - s.cost) else none)
  by_cases e : i = (k : Int)
  · subst e
    rw [if_pos rfl, if_pos (by omega), Int.toNat_natCast, updO_self]; rfl
  · rw [if_neg e]
    by_cases h : 0 ≤ i ∧ i < 64
    · rw [if_pos h, if_pos h, updO_ne _ _ (by omega)]
    · rw [if_neg h, if_neg h]
theorem wf_small {i : Int} (h0 : -9223372036854775808 ≤ i) (h1 : i ≤ 9223372036854775807) : wfI i := by
  unfold wfI Lit.wf
  simp [IntKind.min, IntKind.max, IntKind.signed, IntKind.bits]
  omega
/-- What a book is, once a request came out. -/
def Bk.out (s : Bk) (f : Ft) : Bk := match slotO s.op f.id with
  | some k => { s with op := updO s.op k none, un := s.un ++ [f] }
  | none => s
/-- A book on the way. -/
def BookM (b cw mb : Nat) (V : Nat → Value) (now : Int) (T : Int → Option Int) (n : Nat) (M : Int → Option Value) (A : Option Addr) (cap : Nat) (un : List Ft) : List Res :=
  [ArrR b 218 68 V, WheelR cw now T, MapZR Tryz.prog 3 mb n M, LisR 82 3 (.slice A un.length cap) un.length (fvs un)]
section
variable {w0 w w' : World} {S0 : Nat → Prop} {L X : List Res} {b cw mb cap : Nat} {A : Option Addr} {s : Bk} {id : Int}
theorem lOut_no (H : St w0 S0 w (BookL b cw mb A cap s ++ X)) (f : Ft) (hid : wfI f.id) (hs : slotO s.op f.id = none) : Calls Tryz.prog 135 #[.pointer (some ⟨b, 0, none⟩), .agg f.cells] w fun e w' => e = .returned (.int .i64 6) ∧ St w0 S0 w' (BookL b cw mb A cap s ++ X) := by
  have s1 := H.front 82 f.cells
  obtain ⟨g, hg⟩ : ∃ g, w.heap.size = g := ⟨_, rfl⟩
  obtain ⟨w1, hw1⟩ : ∃ w1, w.alloc (.cells f.cells 82) = w1 := ⟨_, rfl⟩
  rw [hg, hw1] at s1
  obtain ⟨f0, f1, f2⟩ := (s1.blk 0 rfl).three
  have s2 := s1.alloc (.cells #[.int .i64 0, .int .u64 0] 212)
  obtain ⟨g0, g1, g2⟩ := (s2.blk 0 rfl).three
  have s3 : St w0 S0 w1 (BookL b cw mb A cap s ++ X) := s1.drop 0 (by simp)
  have s4 : St w0 S0 (w1.alloc (.cells #[.int .i64 0, .int .u64 0] 212)) (BookL b cw mb A cap s ++ X) := s2.drop 0 (by simp)
  have c2 := bk_cell s3 (j := 2) (by omega)
  have d2 := bk_cell s4 (j := 2) (by omega)
  unfold bkV at c2 d2
  rw [if_neg (by omega), if_neg (by omega), if_pos rfl] at c2 d2
  have e2 : mapO s.op f.id = none := by unfold mapO; rw [hs]; rfl
  have lk := bk_look s3.drew hid
  have lk2 := bk_look s4.drew hid
  rw [hs, e2] at lk lk2
  have lk : (Instr.lookup 215 (.map (some mb)) (.int .i64 f.id) true).run Tryz.prog w1.drew = .ok (.tuple #[.agg #[.int .i64 0, .int .u64 0], .bool false]) w1.drew := lk
  have lk2 : (Instr.lookup 215 (.map (some mb)) (.int .i64 f.id) true).run Tryz.prog (w1.alloc (.cells #[.int .i64 0, .int .u64 0] 212)).drew = .ok (.tuple #[.agg #[.int .i64 0, .int .u64 0], .bool false]) (w1.alloc (.cells #[.int .i64 0, .int .u64 0] 212)).drew := lk2
  have S4 := Lib.hid s4
  clear H s1 s2 s3 s4 hs e2
  go_enter Tryz.func135, Tryz.ntmps135
  go_wp2_with fail
  go_region
  all_goals
    go_wp2_with fail
    go_ret
    exact ⟨rfl, S4.out.drew⟩
theorem lOut_yes (H : St w0 S0 w (BookL b cw mb A cap s ++ X)) (ok : s.ok) (f : Ft) {k : Nat} (hs : slotO s.op f.id = some k) (hun : s.un.length ≤ 100000) : Calls Tryz.prog 135 #[.pointer (some ⟨b, 0, none⟩), .agg f.cells] w fun e w' => e = .returned (.int .i64 0) ∧ ∃ A' cap', St w0 S0 w' (BookL b cw mb A' cap' { s with op := updO s.op k none, un := s.un ++ [f] } ++ X) := by
  obtain ⟨iF, hiF, hzF, hsF, hbF⟩ := info3l YtdjhpdacglojaaaGreatiFt
  obtain ⟨hk6, d, hop⟩ := slot_some hs
  have hbd := ok.bd k _ hop
  dsimp only at hbd
  have hid : wfI f.id := wf_small (by omega) (by omega)
  have hkw : wfI (k : Int) := wf_small (by omega) (by omega)
  have s1 := H.front 82 f.cells
  obtain ⟨g, hg⟩ : ∃ g, w.heap.size = g := ⟨_, rfl⟩
  obtain ⟨w1, hw1⟩ : ∃ w1, w.alloc (.cells f.cells 82) = w1 := ⟨_, rfl⟩
  rw [hg, hw1] at s1
  obtain ⟨f0, f1, f2⟩ := (s1.blk 0 rfl).three
  have s2 := s1.front 212 #[.int .i64 (k : Int), .int .u64 d]
  obtain ⟨g5, hg5⟩ : ∃ g, w1.heap.size = g := ⟨_, rfl⟩
  rw [hg5] at s2
  obtain ⟨g0, g1, g2⟩ := (s2.blk 1 rfl).three
  have s3 : St w0 S0 w1 (BookL b cw mb A cap s ++ X) := s1.drop 0 (by simp)
  have s4 : St w0 S0 (w1.alloc (.cells #[.int .i64 (k : Int), .int .u64 d] 212)) (BookL b cw mb A cap s ++ X) := (s2.drop 0 (by simp)).drop 0 (by simp)
  have c2 := bk_cell s3 (j := 2) (by omega)
  have d2 := bk_cell s4 (j := 2) (by omega)
  unfold bkV at c2 d2
  rw [if_neg (by omega), if_neg (by omega), if_pos rfl] at c2 d2
  have e2 : mapO s.op f.id = some (.agg #[.int .i64 (k : Int), .int .u64 d]) := by
    unfold mapO; rw [hs]; show some (mapF s.op k) = _; unfold mapF; rw [hop]; rfl
  have lk := bk_look s3.drew hid
  have lk2 := bk_look s4.drew hid
  rw [hs, e2] at lk lk2
  have lk : (Instr.lookup 215 (.map (some mb)) (.int .i64 f.id) true).run Tryz.prog w1.drew = .ok (.tuple #[.agg #[.int .i64 (k : Int), .int .u64 d], .bool true]) w1.drew := lk
  have lk2 : (Instr.lookup 215 (.map (some mb)) (.int .i64 f.id) true).run Tryz.prog (w1.alloc (.cells #[.int .i64 0, .int .u64 0] 212)).drew = .ok (.tuple #[.agg #[.int .i64 (k : Int), .int .u64 d], .bool true]) (w1.alloc (.cells #[.int .i64 0, .int .u64 0] 212)).drew := by
    have h := bk_look (s3.alloc (.cells #[.int .i64 0, .int .u64 0] 212)).drew hid
    rw [hs, e2] at h; exact h
  have z0 := (s1.alloc (.cells #[.int .i64 0, .int .u64 0] 212)).blk 0 rfl
  obtain ⟨z0, z1, z2⟩ := z0.three
  have z3 := bk_cell (s3.alloc (.cells #[.int .i64 0, .int .u64 0] 212)) (j := 2) (by omega)
  unfold bkV at z3
  rw [if_neg (by omega), if_neg (by omega), if_pos rfl] at z3
  have S2 := Lib.hid s2
  have HOK := Lib.hid ok
  have HOP := Lib.hid hop
  clear H s1 s2 s3 s4 hs e2 ok hop
  go_enter Tryz.func135, Tryz.ntmps135
  go_wp2_with fail
  go_cut [5, 6] (fun x5 x6 wx => x5 = .pointer (some ⟨g5, 0, none⟩) ∧ x6 = .bool true ∧ wx = (w1.alloc (.cells #[.int .i64 (k : Int), .int .u64 d] 212)).drew)
  case first =>
    go_region
    all_goals
      go_wp2_with fail
      go_meet
      exact ⟨rfl, rfl, rfl⟩
  case rest =>
  obtain ⟨rfl, rfl, rfl⟩ := hcut
  clear c2 d2 z0 z1 z2 z3 lk lk2 f0 f1 f2 g0 g1 g2
  have S3 := Lib.hid S2.out.drew
  clear S2 hg5 hw1 hg
  generalize (w1.alloc (.cells #[.int .i64 (k : Int), .int .u64 d] 212)).drew = w2 at *
  obtain ⟨h0, h1⟩ := (S3.out.blk 0 rfl).two
  obtain ⟨g0, g1, g2⟩ := (S3.out.blk 1 rfl).three
  have c1 := S3.out.arr_cell 2 rfl (k := 1) (by omega)
  unfold bkV at c1
  rw [if_neg (by omega), if_pos rfl] at c1
  obtain ⟨wa, hwa⟩ : ∃ wa : Int, (if (s.T (k : Int)).isSome = true then 0 else 6) = wa := ⟨_, rfl⟩
  have WC := Lib.hid (wCancel_o S3.out.drew 3 rfl hkw)
  rw [hwa] at WC
  clear S3 hwa
  go_wp2_with fail
  go_cut [] (fun wx => St w0 S0 wx (BlkR g5 212 #[.int .i64 (k : Int), .int .u64 d] :: BlkR g 82 f.cells :: (BookM b cw mb (bkV s cw mb A cap) s.now (updT s.T (k : Int) none) (cntO s.op) (mapO s.op) A cap s.un ++ X)))
  case first =>
    go_region_law (first
      | (go_simp; refine WC.out.mono ?_; rintro e3 w3 ⟨rfl, s3⟩; have S4 := Lib.hid s3; clear s3))
    all_goals
      go_wp2_with fail
      go_meet
      exact S4.out
  case rest =>
  clear WC h0 h1 g0 g1 g2 c1
  have S4 := Lib.hid hcut
  obtain ⟨h0, h1⟩ := (S4.out.blk 0 rfl).two
  have c1 := S4.out.arr_cell 2 rfl (k := 3 + k) (by omega)
  have c2 := S4.out.arr_frozen 2 rfl (3 + k)
  unfold bkV at c1
  rw [if_neg (by omega), if_neg (by omega), if_neg (by omega), if_pos (by omega)] at c1
  have v0 : (0 : Int) ≤ (k : Int) := by omega
  have v1 : (k : Int) < 64 := by omega
  obtain ⟨V1, hV1⟩ : ∃ V1 : Nat → Value, V1 = fun j => if j = 3 + k then .int .i64 (-1) else bkV s cw mb A cap j := ⟨_, rfl⟩
  have S5 := Lib.hid (show St w0 S0 (wc.setCell ⟨b, 3 + k, none⟩ (.int .i64 (-1))) (BlkR g5 212 #[.int .i64 (k : Int), .int .u64 d] :: BlkR g 82 f.cells :: (BookM b cw mb V1 s.now (updT s.T (k : Int) none) (cntO s.op) (mapO s.op) A cap s.un ++ X)) by rw [hV1]; exact S4.out.arr_set 2 rfl (by omega) _)
  have HV1 := Lib.hid hV1
  have HVN := Lib.hid (show ∀ j, j ≠ 3 + k → V1 j = bkV s cw mb A cap j from fun j hj => by rw [hV1]; exact if_neg hj)
  clear hcut S4 hV1
  go_wp2_with fail
  go_cut [] (fun wx => St w0 S0 wx (BlkR g5 212 #[.int .i64 (k : Int), .int .u64 d] :: BlkR g 82 f.cells :: (BookM b cw mb V1 s.now (updT s.T (k : Int) none) (cntO s.op) (mapO s.op) A cap s.un ++ X)))
  case first =>
    go_region
    all_goals
      go_wp2_with fail
      go_meet
      exact S5.out.drew
  case rest =>
  clear S5 h0 h1 c1 c2 v0 v1
  have S6 := Lib.hid hcut.drew
  obtain ⟨g0, g1, g2⟩ := (S6.out.blk 1 rfl).three
  have c2 := S6.out.arr_cell 2 rfl (k := 2) (by omega)
  rw [HVN.out 2 (by omega)] at c2
  unfold bkV at c2
  rw [if_neg (by omega), if_neg (by omega), if_pos rfl] at c2
  have MZ := Lib.hid (S6.out.mapz 4 rfl)
  clear hcut
  go_wp2_with fail
  go_cut [] (fun wx => St w0 S0 wx (BlkR g5 212 #[.int .i64 (k : Int), .int .u64 d] :: BlkR g 82 f.cells :: (BookM b cw mb V1 s.now (updT s.T (k : Int) none) (cntO s.op - if (mapO s.op f.id).isSome = true then 1 else 0) (updI (mapO s.op) f.id none) A cap s.un ++ X)))
  case first =>
    go_region_law (first
      | (refine step_mapZ_del (by rfl) _ _ 215 3 (by rfl) 212 Tryz.underlying3 Tryz.underlying215 mb (cntO s.op) (mapO s.op) (by rfl) MZ.out f.id hid (by rfl) ?_; intro w3 hm3 hg3; have S7 := Lib.hid (S6.out.mapz_turn 4 rfl hm3 hg3); clear hm3 hg3))
    all_goals
      go_wp2_with fail
      go_meet
      exact S7.out
  case rest =>
  clear MZ c2 g0 g1 g2 S6
  have e2 : mapO s.op f.id = some (mapF s.op k) := by unfold mapO; rw [HOK.out.U.slot HOP.out]; rfl
  have ec : cntO s.op - (if (mapO s.op f.id).isSome = true then 1 else 0) = cntO (updO s.op k none) := by
    rw [e2, if_pos (show (some (mapF s.op k)).isSome = true from rfl)]
    have := cntO_del hk6 HOP.out
    omega
  rw [ec, ← mapO_del HOK.out.U HOP.out] at hcut
  have K0 := (hcut.drop 0 (by simp))
  have s7 := (K0.alloc (.cells f.cells 82)).drew
  obtain ⟨g0, g1, g2⟩ := (K0.blk 0 rfl).three
  obtain ⟨x0, x1, x2⟩ := ((K0.alloc (.cells f.cells 82)).blk 0 rfl).three
  have c1 := K0.arr_cell 1 rfl (k := 67) (by omega)
  have c3 := (K0.alloc (.cells f.cells 82)).arr_cell 1 rfl (k := 67) (by omega)
  rw [HVN.out 67 (by omega)] at c1 c3
  unfold bkV at c1 c3
  rw [if_neg (by omega), if_neg (by omega), if_neg (by omega), if_neg (by omega)] at c1 c3
  have sN := (K0.lis_new 82 3 1 f.cells rfl (by unfold maxLen; omega)).comm
  have RB := Lib.hid (show Rds ((wc.alloc (.cells f.cells 82)).drew) (some ⟨wc.heap.size, 0, none⟩) 1 3 (fvs [f]) from (sN.drew.lis 0 rfl).reads)
  obtain ⟨nu, hnu⟩ : ∃ nu, s.un.length = nu := ⟨_, rfl⟩
  rw [hnu] at hun c1 c3
  have s7 : St w0 S0 ((wc.alloc (.cells f.cells 82)).drew) ([BlkR g 82 f.cells, ArrR b 218 68 V1, WheelR cw s.now (updT s.T (k : Int) none), MapZR Tryz.prog 3 mb (cntO (updO s.op k none)) (mapO (updO s.op k none)), LisR 82 3 (.slice A nu cap) nu (fvs s.un)] ++ X) := by rw [← hnu]; exact s7
  have HL4 := Lib.hid (s7.lis 4 rfl)
  have S7 := Lib.hid s7
  have HNU := Lib.hid hnu
  clear hcut K0 s7 sN e2 ec hnu
  go_wp2_with fail
  go_region_law (first
    | (refine step_lis (by rfl) _ _ _ (by rfl) 82 iF (.agg #[.int .i64 0, .int .i64 0, .int .i64 0]) 3 24 Tryz.underlying58 hiF hzF hsF hbF (by rfl) (by omega) (.slice A nu cap) nu (fvs s.un) (by rfl) HL4.out _ 1 1 (fvs [f]) (by rfl) RB.out (fvs_one f) (by unfold maxLen; omega) (by omega) ?_; intro D cD w5 hl hg hat; have t5 := S7.out.lis_put 4 rfl hl hg hat; have m1 := t5.arr_cell 1 rfl (k := 67) (by omega); rw [HVN.out 67 (by omega)] at m1; unfold bkV at m1; rw [if_neg (by omega), if_neg (by omega), if_neg (by omega), if_neg (by omega)] at m1; have m2 := t5.arr_frozen 1 rfl 67; have T6 := Lib.hid (t5.arr_set 1 rfl (k := 67) (by omega) (.slice D (nu + 1) cD)); clear hl hg hat t5))
  all_goals
    go_wp2_with fail
    go_ret
    refine ⟨rfl, D, cD, ?_⟩
    have T7 := T6.out.drop 0 (by simp)
    have T8 := T7.arr_like (V' := bkV { s with op := updO s.op k none, un := s.un ++ [f] } cw mb D cD) 0 rfl (fun j hj => by
      show bkV _ cw mb D cD j = if j = 67 then .slice D (nu + 1) cD else V1 j
      rw [show V1 j = if j = 3 + k then .int .i64 (-1) else bkV s cw mb A cap j by rw [HV1.out]]
      unfold bkV
      dsimp only
      by_cases e0 : j = 0
      · subst e0; rw [if_pos rfl, if_neg (by omega), if_neg (by omega), if_pos rfl]
      by_cases e1 : j = 1
      · subst e1; rw [if_neg e0, if_pos rfl, if_neg (by omega), if_neg (by omega), if_neg e0, if_pos rfl]
      by_cases e2 : j = 2
      · subst e2; rw [if_neg e0, if_neg e1, if_pos rfl, if_neg (by omega), if_neg (by omega), if_neg e0, if_neg e1, if_pos rfl]
      by_cases e3 : j < 67
      · rw [if_neg e0, if_neg e1, if_neg e2, if_pos e3, if_neg (by omega)]
        unfold wsO
        by_cases e4 : j = 3 + k
        · rw [if_pos e4, show j - 3 = k by omega, updO_self]
        · rw [if_neg e4, if_neg e0, if_neg e1, if_neg e2, if_pos e3, updO_ne _ _ (by omega)]
      · obtain rfl : j = 67 := by omega
        rw [if_neg e0, if_neg e1, if_neg e2, if_neg e3, if_pos rfl, List.length_append, HNU.out]; rfl)
    have e5 : Bk.T { s with op := updO s.op k none, un := s.un ++ [f] } = updT s.T (k : Int) none := Bk.T_del hk6
    show St w0 S0 _ ([_, WheelR cw s.now (Bk.T { s with op := updO s.op k none, un := s.un ++ [f] }), _, LisR _ 3 (.slice D (s.un ++ [f]).length cD) (s.un ++ [f]).length (fvs (s.un ++ [f]))] ++ X)
    rw [e5, fvs_app, List.length_append, HNU.out]
    exact T8
end
end
section
set_option linter.unusedVariables false
set_option maxRecDepth 100000
set_option maxHeartbeats 2000000
theorem Bk.out_some {s : Bk} {f : Ft} {k : Nat} (h : slotO s.op f.id = some k) : s.out f = { s with op := updO s.op k none, un := s.un ++ [f] } := by unfold Bk.out; rw [h]
theorem Bk.out_none {s : Bk} {f : Ft} (h : slotO s.op f.id = none) : s.out f = s := by unfold Bk.out; rw [h]
theorem Bk.ok.out {s : Bk} (ok : s.ok) (f : Ft) : (s.out f).ok := by
  cases h : slotO s.op f.id with
  | none => rw [Bk.out_none h]; exact ok
  | some k =>
    rw [Bk.out_some h]
    refine ⟨ok.c0, ok.c1, ok.n0, ok.U.del k, fun j x hx => ?_⟩
    have hx : updO s.op k none j = some x := hx
    by_cases e : j = k
    · subst e; rw [updO_self] at hx; cases hx
    · rw [updO_ne _ _ e] at hx; exact ok.bd j x hx
/-- What comesOut answers. -/
def outA (s : Bk) (id : Int) : Int := if (slotO s.op id).isSome = true then 0 else 6
section
variable {w0 w w' : World} {S0 : Nat → Prop} {L X : List Res} {b : Nat} {s : Bk} {id : Int}
theorem bOut_o (H : St w0 S0 w L) (i : Nat) (hi : L[i]? = some (BookR b s)) (f : Ft) (hid : wfI f.id) (hun : s.un.length ≤ 100000) : Calls Tryz.prog 135 #[.pointer (some ⟨b, 0, none⟩), .agg f.cells] w fun e w' => e = .returned (.int .i64 (outA s f.id)) ∧ St w0 S0 w' (L.set i (BookR b (s.out f))) :=
  St.call (fun w S h => by
    obtain ⟨ok, cw, mb, A, cap, hs⟩ := h
    have H0 : St w S w (BookL b cw mb A cap s ++ []) := by rw [List.append_nil]; exact St.start hs
    unfold outA
    cases hsl : slotO s.op f.id with
    | none =>
      refine (lOut_no H0 f hid hsl).mono fun e w' ⟨he, s'⟩ => ⟨he, ?_⟩
      rw [Bk.out_none hsl]
      rw [List.append_nil] at s'
      exact s'.fin fun S' h => ⟨ok, cw, mb, A, cap, h⟩
    | some k =>
      refine (lOut_yes H0 ok f hsl hun).mono fun e w' ⟨he, A', cap', s'⟩ => ⟨he, ?_⟩
      have ok2 := ok.out f
      rw [Bk.out_some hsl] at ok2 ⊢
      rw [List.append_nil] at s'
      exact s'.fin fun S' h => ⟨ok2, cw, mb, A', cap', h⟩) (BookR.ok _ _) H i hi
theorem bHas_o (H : St w0 S0 w L) (i : Nat) (hi : L[i]? = some (BookR b s)) (hid : wfI id) : Calls Tryz.prog 79 #[.pointer (some ⟨b, 0, none⟩), .int .i64 id] w fun e w' => e = .returned (.tuple #[.int .u64 (deadO s.op id), .bool (slotO s.op id).isSome]) ∧ St w0 S0 w' L := by
  have h := St.call (R := BookR b s) (R' := BookR b s) (fun w S h => by
    obtain ⟨ok, cw, mb, A, cap, hs⟩ := h
    have H0 : St w S w (BookL b cw mb A cap s ++ []) := by rw [List.append_nil]; exact St.start hs
    exact (lHas_c H0 hid).mono fun e w' ⟨he, s'⟩ => ⟨he, by
      rw [List.append_nil] at s'
      exact s'.fin fun S' h => ⟨ok, cw, mb, A, cap, h⟩⟩) (BookR.ok _ _) H i hi
  rwa [set_same hi] at h
theorem bCancel_o (H : St w0 S0 w L) (i : Nat) (hi : L[i]? = some (BookR b s)) (hid : wfI id) (hun : s.un.length ≤ 100000) : Calls Tryz.prog 76 #[.pointer (some ⟨b, 0, none⟩), .int .i64 id] w fun e w' => e = .returned (.int .i64 (outA s id)) ∧ St w0 S0 w' (L.set i (BookR b (s.out ⟨id, 2, 3⟩))) := by
  have OC := Lib.hid (bOut_o H i hi ⟨id, 2, 3⟩ hid hun)
  obtain ⟨a, ha⟩ : ∃ a, outA s id = a := ⟨_, rfl⟩
  dsimp only at OC
  rw [ha] at OC ⊢
  clear H hi ha
  go_enter Tryz.func76, Tryz.ntmps76
  go_wp2_with fail
  refine OC.out.mono ?_
  rintro e w1 ⟨rfl, s1⟩
  have S1 := Lib.hid s1
  clear s1 OC
  go_wp2_with fail
  go_ret
  exact ⟨rfl, S1.out⟩
/-- What Answer answers, and does. -/
def ansA (s : Bk) (id st : Int) : Int := if st < 0 ∨ 255 < st then 1 else outA s id
def Bk.ans (s : Bk) (id st : Int) (bad : Bool) : Bk := if st < 0 ∨ 255 < st then s else s.out (if bad then ⟨id, 2, 2⟩ else ⟨id, 1, st⟩)
theorem bAnswer_o (H : St w0 S0 w L) (i : Nat) (hi : L[i]? = some (BookR b s)) (hid : wfI id) (hun : s.un.length ≤ 100000) (st : Int) (bad : Bool) : Calls Tryz.prog 71 #[.pointer (some ⟨b, 0, none⟩), .int .i64 id, .int .i64 st, .bool bad] w fun e w' => e = .returned (.int .i64 (ansA s id st)) ∧ St w0 S0 w' (L.set i (BookR b (s.ans id st bad))) := by
  have HH := Lib.hid H
  by_cases h0 : st < 0
  · have e1 : ansA s id st = 1 := if_pos (Or.inl h0)
    have e2 : s.ans id st bad = s := if_pos (Or.inl h0)
    rw [e1, e2, set_same hi]
    have d0 : decide (st < 0) = true := decide_eq_true h0
    clear H hi e1 e2
    go_enter Tryz.func71, Tryz.ntmps71
    go_wp2_with fail
    go_ret
    exact ⟨rfl, HH.out⟩
  have d0 : decide (st < 0) = false := decide_eq_false h0
  by_cases h1 : 255 < st
  · have e1 : ansA s id st = 1 := if_pos (Or.inr h1)
    have e2 : s.ans id st bad = s := if_pos (Or.inr h1)
    rw [e1, e2, set_same hi]
    have d1 : decide (255 < st) = true := decide_eq_true h1
    clear H hi e1 e2
    go_enter Tryz.func71, Tryz.ntmps71
    go_wp2_with fail
    go_ret
    exact ⟨rfl, HH.out⟩
  have d1 : decide (255 < st) = false := decide_eq_false h1
  have e1 : ansA s id st = outA s id := if_neg (by omega)
  have e2 : s.ans id st bad = s.out (if bad then ⟨id, 2, 2⟩ else ⟨id, 1, st⟩) := if_neg (by omega)
  rw [e1, e2]
  obtain ⟨a, ha⟩ : ∃ a, outA s id = a := ⟨_, rfl⟩
  cases bad with
  | true =>
    have OC := Lib.hid (bOut_o H i hi ⟨id, 2, 2⟩ hid hun)
    dsimp only at OC
    rw [ha] at OC ⊢
    have e3 : s.out (if true = true then (⟨id, 2, 2⟩ : Ft) else ⟨id, 1, st⟩) = s.out ⟨id, 2, 2⟩ := by rw [if_pos rfl]
    rw [e3]
    clear H hi ha HH e1 e2 h0 h1 e3
    go_enter Tryz.func71, Tryz.ntmps71
    go_wp2_with fail
    refine OC.out.mono ?_
    rintro e w1 ⟨rfl, s1⟩
    have S1 := Lib.hid s1
    clear s1 OC
    go_wp2_with fail
    go_ret
    exact ⟨rfl, S1.out⟩
  | false =>
    have OC := Lib.hid (bOut_o H i hi ⟨id, 1, st⟩ hid hun)
    dsimp only at OC
    rw [ha] at OC ⊢
    have e3 : s.out (if false = true then (⟨id, 2, 2⟩ : Ft) else ⟨id, 1, st⟩) = s.out ⟨id, 1, st⟩ := by rw [if_neg (by decide)]
    rw [e3]
    clear H hi ha HH e1 e2 h0 h1 e3
    go_enter Tryz.func71, Tryz.ntmps71
    go_wp2_with fail
    refine OC.out.mono ?_
    rintro e w1 ⟨rfl, s1⟩
    have S1 := Lib.hid s1
    clear s1 OC
    go_wp2_with fail
    go_ret
    exact ⟨rfl, S1.out⟩
end
end
section
set_option linter.unusedVariables false
set_option maxRecDepth 100000
set_option maxHeartbeats 4000000
theorem cf_free {p : Nat → Bool} : ∀ {n : Nat}, cf p n < n → ∃ k, k < n ∧ p k = false ∧ ∀ j, j < k → p j = true
  | 0, h => by omega
  | n + 1, h => by
    rw [cf_succ] at h
    by_cases hn : cf p n < n
    · obtain ⟨k, h1, h2, h3⟩ := cf_free hn
      exact ⟨k, by omega, h2, h3⟩
    · refine ⟨n, by omega, ?_, fun j hj => ?_⟩
      · cases hp : p n with
        | false => rfl
        | true => rw [if_pos hp] at h; have := cf_le p n; omega
      · cases hp : p j with
        | true => rfl
        | false =>
          exfalso
          have h1 := (cf_upd p j true n).1 hj
          rw [if_neg (by rw [hp]; decide), if_pos rfl] at h1
          have h2 := cf_le (fun i => if i = j then true else p i) n
          omega
/-- The first timer that nobody has. -/
def freeO (op : Nat → Option (Int × Int)) : Nat := ((List.range 64).find? fun k => (op k).isNone).getD 0
theorem find_first {p : Nat → Bool} {n k : Nat} (hk : k < n) (h : p k = true) (hl : ∀ j, j < k → p j = false) : (List.range n).find? p = some k := by
  rw [List.find?_range_eq_some]
  exact ⟨h, by simpa using hk, fun j hj => by rw [hl j hj]; rfl⟩
theorem free_get {op : Nat → Option (Int × Int)} (h : cntO op < 64) : freeO op < 64 ∧ op (freeO op) = none ∧ ∀ j, j < freeO op → op j ≠ none := by
  obtain ⟨k, h1, h2, h3⟩ := cf_free h
  have e : freeO op = k := by
    unfold freeO
    rw [find_first h1 (by cases hk : op k with | none => rfl | some x => rw [hk] at h2; cases h2) fun j hj => by
      have := h3 j hj
      cases hk : op j with
      | none => rw [hk] at this; cases this
      | some x => rfl]
    rfl
  rw [e]
  refine ⟨h1, ?_, fun j hj hn => ?_⟩
  · cases hk : op k with
    | none => rfl
    | some x => rw [hk] at h2; cases h2
  · have := h3 j hj
    rw [hn] at this; cases this
theorem IdxA_c {w : World} {b : Nat} {f : Nat → Int} {v : Int} (hc : ∀ j, j < 64 → w.cell? ⟨b, 3 + j, none⟩ = some (.int .i64 (f j))) {k0 : Nat} (hk : k0 < 64) (h0 : f k0 = v) (hno : ∀ j, j < k0 → f j ≠ v) :
    Calls Tryz.prog 146 #[.slice (some ⟨b, 3, none⟩) 64 64, .int .i64 v] w fun e w' => e = .returned (.int .i64 (k0 : Int)) ∧ w = w' := by
  have HC := Lib.hid hc
  have H0 := Lib.hid h0
  have HN := Lib.hid hno
  clear hc h0 hno
  go_enter Tryz.func146, Tryz.ntmps146
  go_wp2_with fail
  go_loopw [8] (fun i wr => ∃ k : Nat, k ≤ k0 ∧ i = .int .i64 (k : Int) ∧ wr = w) (fun i _ => 64 - (intOf i).toNat)
  case atStart => exact ⟨0, by omega, rfl, rfl⟩
  case round =>
    obtain ⟨k, hkk, rfl, rfl⟩ := hrel
    have t1 : decide ((k : Int) < 64) = true := decide_eq_true (by omega)
    have t1' : decide (k < 64) = true := decide_eq_true (by omega)
    have c0 := HC.out k (by omega)
    obtain ⟨y, hy⟩ : ∃ y, f k = y := ⟨_, rfl⟩
    rw [hy] at c0
    have HY := Lib.hid hy
    clear hy
    by_cases e : k = k0
    · subst e
      have z1 : (v == y) = true := by rw [← H0.out, HY.out]; exact beq_self_eq_true y
      go_wp2_with fail
      go_ret
      exact ⟨rfl, rfl⟩
    · have z1 : (v == y) = false := beq_eq_false_iff_ne.2 fun h => HN.out k (by omega) (by rw [HY.out, h])
      go_wp2_with fail
      go_roundw
      case rel => exact ⟨k + 1, by omega, by go_num, by first | rfl | trivial⟩
      case measure => simp [intOf]; omega
theorem bNow_q {w0 w : World} {S0 : Nat → Prop} {L : List Res} {now : Int} {T : Int → Option Int} (H : St w0 S0 w L) (i : Nat) {c : Nat} (hi : L[i]? = some (WheelR c now T)) : Calls Tryz.prog 104 #[.pointer (some ⟨c, 0, none⟩)] w fun e w' => e = .returned (.int .u64 now) ∧ w = w' := by
  obtain ⟨S, ok, bw, mb, hs⟩ := H.get i hi
  have c0 := wl_now (St.start hs)
  clear hs ok H hi
  go_enter Tryz.func104, Tryz.ntmps104
  go_wp2_with fail
  go_ret
  exact ⟨rfl, rfl⟩
def lftO (t u : Int) : Int := if u ≤ t then 0 else u - t
theorem left_o (t u : Int) (w : World) (h0 : 0 ≤ t) (h1 : u ≤ 18446744073709551615) : Calls Tryz.prog 103 #[.int .u64 t, .int .u64 u] w fun e w' => e = .returned (.int .u64 (lftO t u)) ∧ w = w' := by
  unfold lftO
  by_cases h : u ≤ t
  · rw [if_pos h]; exact left_0 t u w h
  · rw [if_neg h]; exact left_pos t u w h0 (by omega) h1
section
variable {w0 w w' : World} {S0 : Nat → Prop} {L X : List Res} {b cw mb cap : Nat} {A : Option Addr} {s : Bk} {id dead : Int}
theorem lFree_c (H : St w0 S0 w (BookL b cw mb A cap s ++ X)) (ok : s.ok) (hn : cntO s.op < 64) : Calls Tryz.prog 105 #[.pointer (some ⟨b, 0, none⟩)] w fun e w' => e = .returned (.int .i64 (freeO s.op : Int)) ∧ w = w' := by
  obtain ⟨f1, f2, f3⟩ := free_get hn
  have hc : ∀ j, j < 64 → w.cell? ⟨b, 3 + j, none⟩ = some (.int .i64 (wsO s.op j)) := fun j hj => by
    have c := bk_cell H (j := 3 + j) (by omega)
    unfold bkV at c
    rw [if_neg (by omega), if_neg (by omega), if_neg (by omega), if_pos (by omega), Nat.add_sub_cancel_left] at c
    exact c
  have IC := Lib.hid (IdxA_c hc f1 (v := -1) (by unfold wsO; rw [f2]) fun j hj e => by
    unfold wsO at e
    cases ho : s.op j with
    | none => exact f3 j hj ho
    | some x =>
      rw [ho] at e
      have := ok.bd j x ho
      dsimp only at e
      omega)
  have n0 := H.arr_frozen 0 rfl 3
  clear H hc ok f1 f2 f3 hn
  generalize freeO s.op = k at *
  go_enter Tryz.func105, Tryz.ntmps105
  go_wp2_with fail
  refine IC.out.mono ?_
  rintro e w1 ⟨rfl, rfl⟩
  go_wp2_with fail
  go_ret
  exact ⟨rfl, rfl⟩
/-- What Open answers, and does. -/
def opnA (s : Bk) (id dead : Int) : Int := if id < 0 ∨ 65535 < id then 1 else if 4611686018427387904 ≤ dead then 2 else if (slotO s.op id).isSome = true then 7 else if cntO s.op = 64 then 4 else if dead ≤ s.now + s.cost then 11 else 0
def Bk.opn (s : Bk) (id dead : Int) : Bk := if opnA s id dead = 0 then { s with op := updO s.op (freeO s.op) (some (id, dead)) } else s
theorem cntO_le (op : Nat → Option (Int × Int)) : cntO op ≤ 64 := cf_le _ _
theorem opnA_0 (h : opnA s id dead = 0) : 0 ≤ id ∧ id ≤ 65535 ∧ dead < 4611686018427387904 ∧ slotO s.op id = none ∧ cntO s.op < 64 ∧ s.now + s.cost < dead := by
  unfold opnA at h
  split at h
  · cases h
  split at h
  · cases h
  split at h
  · cases h
  split at h
  · cases h
  split at h
  · cases h
  rename_i h1 h2 h3 h4 h5
  refine ⟨by omega, by omega, by omega, by cases hs : slotO s.op id with | none => rfl | some k => rw [hs] at h3; exact absurd rfl h3, ?_, by omega⟩
  have := cntO_le s.op
  omega
theorem Bk.ok.opn (ok : s.ok) (id dead : Int) : (s.opn id dead).ok := by
  unfold Bk.opn
  split
  · rename_i h
    obtain ⟨h1, h2, h3, h4, h5, h6⟩ := opnA_0 h
    obtain ⟨f1, f2, f3⟩ := free_get h5
    refine ⟨ok.c0, ok.c1, ok.n0, ok.U.put f1 h4, fun j x hx => ?_⟩
    have hx : updO s.op (freeO s.op) (some (id, dead)) j = some x := hx
    by_cases e : j = freeO s.op
    · rw [e, updO_self] at hx
      injection hx with hx
      subst hx
      exact ⟨h1, h2, by show s.now < dead - s.cost; omega, h3⟩
    · rw [updO_ne _ _ e] at hx; exact ok.bd j x hx
  · exact ok
theorem Bk.T_put {s : Bk} {k : Nat} (hk : k < 64) (id dead : Int) : Bk.T { s with op := updO s.op k (some (id, dead)) } = updT s.T (k : Int) (some (dead - s.cost)) := by
  funext i
  show (if 0 ≤ i ∧ i < 64 then (updO s.op k (some (id, dead)) i.toNat).map (fun x => x.2 - s.cost) else none) = if i = (k : Int) then some (dead - s.cost) else (if 0 ≤ i ∧ i < 64 then (s.op i.toNat).map (fun x => x.2 - s.cost) else none)
  by_cases e : i = (k : Int)
  · subst e
    rw [if_pos rfl, if_pos (by omega), Int.toNat_natCast, updO_self]; rfl
  · rw [if_neg e]
    by_cases h : 0 ≤ i ∧ i < 64
    · rw [if_pos h, if_pos h, updO_ne _ _ (by omega)]
    · rw [if_neg h, if_neg h]
end
end
section
set_option linter.unusedVariables false
set_option maxRecDepth 100000
set_option maxHeartbeats 4000000
section
variable {w0 w w' : World} {S0 : Nat → Prop} {L X : List Res} {b cw mb cap : Nat} {A : Option Addr} {s : Bk} {id dead : Int}
theorem lOpen_no (H : St w0 S0 w (BookL b cw mb A cap s ++ X)) (ok : s.ok) (hid : wfI id) (h0 : 0 ≤ dead) (h1 : dead ≤ 18446744073709551615) (hne : opnA s id dead ≠ 0) : Calls Tryz.prog 47 #[.pointer (some ⟨b, 0, none⟩), .int .i64 id, .int .u64 dead] w fun e w' => e = .returned (.int .i64 (opnA s id dead)) ∧ St w0 S0 w' (BookL b cw mb A cap s ++ X) := by
  obtain ⟨a, ha⟩ : ∃ a, opnA s id dead = a := ⟨_, rfl⟩
  rw [ha] at hne ⊢
  unfold opnA at ha
  obtain ⟨t0, d0, ex, hex, lk⟩ : ∃ t0 d0 ex, (slotO s.op id).isSome = ex ∧ (Instr.lookup 215 (.map (some mb)) (.int .i64 id) true).run Tryz.prog w = .ok (.tuple #[.agg #[.int .i64 t0, .int .u64 d0], .bool ex]) w := by
    have lk := bk_look H hid
    cases hs : slotO s.op id with
    | none =>
      have e2 : mapO s.op id = none := by unfold mapO; rw [hs]; rfl
      rw [hs, e2] at lk
      exact ⟨0, 0, false, rfl, lk⟩
    | some k =>
      have e2 : mapO s.op id = some (mapF s.op k) := by unfold mapO; rw [hs]; rfl
      rw [hs, e2] at lk
      exact ⟨_, _, true, rfl, lk⟩
  rw [hex] at ha
  have c2 := bk_cell H (j := 2) (by omega)
  unfold bkV at c2
  rw [if_neg (by omega), if_neg (by omega), if_pos rfl] at c2
  have s2 := H.alloc (.cells #[.int .i64 t0, .int .u64 d0] 212)
  have S2 := Lib.hid s2
  have MY := Lib.hid (fun w => may_any dead w)
  by_cases g0 : id < 0
  · rw [if_pos (Or.inl g0)] at ha
    subst ha
    have z0 : decide (id < 0) = true := decide_eq_true g0
    clear H ok hex s2
    go_enter Tryz.func47, Tryz.ntmps47
    go_wp2_with fail
    go_ret
    exact ⟨rfl, S2.out⟩
  have z0 : decide (id < 0) = false := decide_eq_false g0
  by_cases g1 : 65535 < id
  · rw [if_pos (Or.inr g1)] at ha
    subst ha
    have z1 : decide (65535 < id) = true := decide_eq_true g1
    clear H ok hex s2
    go_enter Tryz.func47, Tryz.ntmps47
    go_wp2_with fail
    go_ret
    exact ⟨rfl, S2.out⟩
  have z1 : decide (65535 < id) = false := decide_eq_false g1
  rw [if_neg (by omega)] at ha
  by_cases g2 : 4611686018427387904 ≤ dead
  · rw [if_pos g2] at ha
    subst ha
    rw [show decide (dead < 4611686018427387904) = false from decide_eq_false (by omega)] at MY
    clear H ok hex s2
    go_enter Tryz.func47, Tryz.ntmps47
    go_wp2_with fail
    refine (MY.out _).mono ?_
    rintro e w1 ⟨rfl, rfl⟩
    go_wp2_with fail
    go_ret
    exact ⟨rfl, S2.out⟩
  rw [if_neg g2] at ha
  rw [show decide (dead < 4611686018427387904) = true from decide_eq_true (by omega)] at MY
  cases ex with
  | true =>
    rw [if_pos rfl] at ha
    subst ha
    clear H ok hex s2
    go_enter Tryz.func47, Tryz.ntmps47
    go_wp2_with fail
    refine (MY.out _).mono ?_
    rintro e w1 ⟨rfl, rfl⟩
    go_wp2_with fail
    go_ret
    exact ⟨rfl, S2.out⟩
  | false =>
  rw [if_neg (by decide)] at ha
  have ln := (s2.mapz 2 rfl).len Tryz.underlying215
  have d2 := bk_cell s2 (j := 2) (by omega)
  unfold bkV at d2
  rw [if_neg (by omega), if_neg (by omega), if_pos rfl] at d2
  by_cases g3 : cntO s.op = 64
  · rw [if_pos g3] at ha
    subst ha
    rw [g3] at ln
    clear H ok hex s2
    go_enter Tryz.func47, Tryz.ntmps47
    go_wp2_with fail
    refine (MY.out _).mono ?_
    rintro e w1 ⟨rfl, rfl⟩
    go_wp2_with fail
    go_ret
    exact ⟨rfl, S2.out⟩
  rw [if_neg g3] at ha
  by_cases g4 : dead ≤ s.now + s.cost
  · rw [if_pos g4] at ha
    subst ha
    have c0' := ok.c0
    have n0' := ok.n0
    obtain ⟨l, hl⟩ : ∃ l, lftO s.now dead = l := ⟨_, rfl⟩
    have zl : decide (l ≤ s.cost) = true := decide_eq_true (by rw [← hl]; unfold lftO; split <;> omega)
    have e0 := bk_cell s2.drew (j := 0) (by omega)
    have e1 := bk_cell s2.drew (j := 1) (by omega)
    unfold bkV at e0 e1
    rw [if_pos rfl] at e0
    rw [if_neg (by omega), if_pos rfl] at e1
    have NW := Lib.hid (bNow_q s2.drew 1 rfl)
    have LF := Lib.hid (left_o s.now dead ((w.alloc (.cells #[.int .i64 t0, .int .u64 d0] 212)).drew) n0' h1)
    rw [hl] at LF
    have z3 : ((cntO s.op : Int) == 64) = false := beq_eq_false_iff_ne.2 (by omega)
    have z3' : (cntO s.op == 64) = false := beq_eq_false_iff_ne.2 g3
    clear H ok hex s2 g4 hl
    generalize s.now = now at *
    generalize s.cost = cost at *
    go_enter Tryz.func47, Tryz.ntmps47
    go_wp2_with fail
    refine (MY.out _).mono ?_
    rintro e w1 ⟨rfl, rfl⟩
    go_wp2_with fail
    go_cut [37] (fun x37 wx => x37 = .bool true ∧ wx = (w.alloc (.cells #[.int .i64 t0, .int .u64 d0] 212)).drew)
    case first =>
      go_region_law (first
        | (go_simp; refine NW.out.mono ?_; rintro e3 w3 ⟨rfl, rfl⟩)
        | (go_simp; refine LF.out.mono ?_; rintro e3 w3 ⟨rfl, rfl⟩))
      all_goals
        go_wp2_with fail
        go_meet
        exact ⟨rfl, rfl⟩
    case rest =>
    obtain ⟨rfl, rfl⟩ := hcut
    go_wp2_with fail
    go_ret
    exact ⟨rfl, S2.out.drew⟩
  rw [if_neg g4] at ha
  exact absurd ha.symm hne
end
end
section
set_option linter.unusedVariables false
set_option maxRecDepth 100000
set_option maxHeartbeats 2000000
section
variable {w0 w w' : World} {S0 : Nat → Prop} {L X : List Res} {b cw mb cap : Nat} {A : Option Addr} {s : Bk} {id dead : Int}
theorem lOpen_yes (H : St w0 S0 w (BookL b cw mb A cap s ++ X)) (ok : s.ok) (hid : wfI id) (h0 : 0 ≤ dead) (he : opnA s id dead = 0) : Calls Tryz.prog 47 #[.pointer (some ⟨b, 0, none⟩), .int .i64 id, .int .u64 dead] w fun e w' => e = .returned (.int .i64 0) ∧ St w0 S0 w' (BookL b cw mb A cap { s with op := updO s.op (freeO s.op) (some (id, dead)) } ++ X) := by
  obtain ⟨g0, g1, g2, hs, hn, g6⟩ := opnA_0 he
  obtain ⟨f1, f2, f3⟩ := free_get hn
  have e2 : mapO s.op id = none := by unfold mapO; rw [hs]; rfl
  have eT : ∀ k, k < 64 → Bk.T { s with op := updO s.op k (some (id, dead)) } = updT s.T (k : Int) (some (dead - s.cost)) := fun k hk => Bk.T_put hk id dead
  have lk := bk_look H hid
  rw [hs, e2] at lk
  have lk : (Instr.lookup 215 (.map (some mb)) (.int .i64 id) true).run Tryz.prog w = .ok (.tuple #[.agg #[.int .i64 0, .int .u64 0], .bool false]) w := lk
  have c2 := bk_cell H (j := 2) (by omega)
  unfold bkV at c2
  rw [if_neg (by omega), if_neg (by omega), if_pos rfl] at c2
  have s2 := H.alloc (.cells #[.int .i64 0, .int .u64 0] 212)
  have S2 := Lib.hid s2.drew
  have MY := Lib.hid (fun w => may_any dead w)
  rw [show decide (dead < 4611686018427387904) = true from decide_eq_true (by omega)] at MY
  have z0 : decide (id < 0) = false := decide_eq_false (by omega)
  have z1 : decide (65535 < id) = false := decide_eq_false (by omega)
  have ln := (s2.mapz 2 rfl).len Tryz.underlying215
  have d2 := bk_cell s2 (j := 2) (by omega)
  unfold bkV at d2
  rw [if_neg (by omega), if_neg (by omega), if_pos rfl] at d2
  have c0' := ok.c0
  have n0' := ok.n0
  obtain ⟨l, hl⟩ : ∃ l, lftO s.now dead = l := ⟨_, rfl⟩
  have zl : decide (l ≤ s.cost) = false := decide_eq_false (by rw [← hl]; unfold lftO; split <;> omega)
  have x0 := bk_cell s2.drew (j := 0) (by omega)
  have x1 := bk_cell s2.drew (j := 1) (by omega)
  unfold bkV at x0 x1
  rw [if_pos rfl] at x0
  rw [if_neg (by omega), if_pos rfl] at x1
  have NW := Lib.hid (bNow_q s2.drew 1 rfl)
  have LF := Lib.hid (left_o s.now dead ((w.alloc (.cells #[.int .i64 0, .int .u64 0] 212)).drew) n0' (by omega))
  rw [hl] at LF
  have z3 : ((cntO s.op : Int) == 64) = false := beq_eq_false_iff_ne.2 (by omega)
  have z3' : (cntO s.op == 64) = false := beq_eq_false_iff_ne.2 (by omega)
  have FT := Lib.hid (lFree_c s2.drew ok hn)
  have HOK := Lib.hid ok
  have HS := Lib.hid hs
  have HE := Lib.hid e2
  have HT := Lib.hid eT
  have HF := Lib.hid f2
  clear H s2 hl e2 hs f2 f3 he eT ok
  generalize hk : freeO s.op = k at *
  have HK := Lib.hid hk
  clear hk
  obtain ⟨now, hnow⟩ : ∃ now, s.now = now := ⟨_, rfl⟩
  obtain ⟨cost, hcost⟩ : ∃ cost, s.cost = cost := ⟨_, rfl⟩
  rw [hnow] at n0' g6
  rw [hcost] at c0' zl x0 g6
  have HNOW := Lib.hid hnow
  have HCOST := Lib.hid hcost
  clear hnow hcost
  go_enter Tryz.func47, Tryz.ntmps47
  go_wp2_with fail
  refine (MY.out _).mono ?_
  rintro e w1 ⟨rfl, rfl⟩
  go_wp2_with fail
  go_cut [37] (fun x37 wx => x37 = .bool false ∧ wx = (w.alloc (.cells #[.int .i64 0, .int .u64 0] 212)).drew)
  case first =>
    go_region_law (first
      | (go_simp; refine NW.out.mono ?_; rintro e3 w3 ⟨rfl, rfl⟩)
      | (go_simp; refine LF.out.mono ?_; rintro e3 w3 ⟨rfl, rfl⟩))
    all_goals
      go_wp2_with fail
      go_meet
      exact ⟨rfl, rfl⟩
  case rest =>
  obtain ⟨rfl, rfl⟩ := hcut
  clear lk c2 ln d2 x0 x1 NW LF MY z0 z1 zl z3 z3'
  generalize (w.alloc (.cells #[.int .i64 0, .int .u64 0] 212)).drew = w2 at *
  go_wp2_with fail
  refine FT.out.mono ?_
  rintro e w1 ⟨rfl, rfl⟩
  have c1 := bk_cell S2.out (j := 3 + k) (by omega)
  have c2 := bk_frozen S2.out (3 + k)
  unfold bkV at c1
  rw [if_neg (by omega), if_neg (by omega), if_neg (by omega), if_pos (by omega)] at c1
  have v0 : (0 : Int) ≤ (k : Int) := by omega
  have v1 : (k : Int) < 64 := by omega
  obtain ⟨V1, hV1⟩ : ∃ V1 : Nat → Value, V1 = fun j => if j = 3 + k then .int .i64 id else bkV s cw mb A cap j := ⟨_, rfl⟩
  have s5 : St w0 S0 (w2.setCell ⟨b, 3 + k, none⟩ (.int .i64 id)) (BookM b cw mb V1 now s.T (cntO s.op) (mapO s.op) A cap s.un ++ X) := by rw [hV1, ← HNOW.out]; exact S2.out.arr_set 0 rfl (by omega) _
  have HV1 := Lib.hid hV1
  have HVN : ∀ j, j ≠ 3 + k → V1 j = bkV s cw mb A cap j := fun j hj => by rw [hV1]; exact if_neg hj
  have d2 := s5.arr_cell 0 rfl (k := 2) (by omega)
  rw [HVN 2 (by omega)] at d2
  unfold bkV at d2
  rw [if_neg (by omega), if_neg (by omega), if_pos rfl] at d2
  have MZ := Lib.hid (s5.mapz 2 rfl)
  have S5 := Lib.hid s5
  have HVN := Lib.hid HVN
  have S6 := Lib.hid (show ∀ w3, MapZ w3 Tryz.prog 3 mb (cntO s.op + if (mapO s.op id).isSome = true then 0 else 1) (updI (mapO s.op) id (some (.agg #[.int .i64 (k : Int), .int .u64 dead]))) → (w2.setCell ⟨b, 3 + k, none⟩ (.int .i64 id)).grownBy w3 (some mb) → St w0 S0 w3 (BookM b cw mb V1 now s.T (cntO (updO s.op k (some (id, dead)))) (mapO (updO s.op k (some (id, dead)))) A cap s.un ++ X) from fun w3 hm3 hg3 => by
    have s6 := S5.out.mapz_turn 2 rfl hm3 hg3
    rw [HE.out, if_neg (show ¬ ((none : Option Value).isSome = true) by decide), ← cntO_put (x := (id, dead)) f1 HF.out, ← mapO_put HOK.out.U f1 HF.out HS.out] at s6
    exact s6)
  clear FT hV1 s5
  have k0 : 0 ≤ dead - cost := by omega
  have k1 : dead - cost ≤ 18446744073709551615 := by omega
  have wk : IntKind.u64.wrap (dead - cost) = dead - cost := IntWalk.u64_in _ ⟨by omega, by omega⟩
  have SA := Lib.hid (show setA now (k : Int) (dead - cost) = 0 by unfold setA; rw [if_neg (by omega), if_pos (by omega)])
  have eS : setT now s.T (k : Int) (dead - cost) = Bk.T { s with op := updO s.op k (some (id, dead)) } := by
    unfold setT
    rw [if_pos SA.out, HT.out k f1, HCOST.out]
  have ES := Lib.hid eS
  clear eS
  go_wp2_with (first
    | (at_mapUpdate; refine wpList_mapZ_put rfl _ _ _ 215 rfl 3 212 Tryz.underlying3 Tryz.underlying215 mb (cntO s.op) (mapO s.op) rfl MZ.out (by unfold maxLen; omega) id hid (.agg #[.int .i64 (k : Int), .int .u64 dead]) rfl rfl ?_; intro w3 hm3 hg3; have hc3 := S6.out w3 hm3 hg3; have y0 := hc3.drew.arr_cell 0 rfl (k := 0) (by omega); have y1 := hc3.drew.arr_cell 0 rfl (k := 1) (by omega); rw [HVN.out 0 (by omega)] at y0; rw [HVN.out 1 (by omega)] at y1; unfold bkV at y0 y1; rw [if_pos rfl, HCOST.out] at y0; rw [if_neg (by omega), if_pos rfl] at y1; have WS := Lib.hid (wSet_o hc3.drew 1 rfl (id := (k : Int)) k0); rw [SA.out, ES.out] at WS; clear hm3 hg3 hc3)
    | fail)
  go_region_law (first
    | (go_simp; refine WS.out.mono ?_; rintro e3 w3 ⟨rfl, s3⟩; have S7 := Lib.hid s3; clear s3))
  all_goals
    go_wp2_with fail
    go_ret
    refine ⟨rfl, ?_⟩
    have T8 := S7.out.arr_like (V' := bkV { s with op := updO s.op k (some (id, dead)) } cw mb A cap) 0 rfl (fun j hj => by
      show bkV _ cw mb A cap j = V1 j
      rw [show V1 j = if j = 3 + k then .int .i64 id else bkV s cw mb A cap j by rw [HV1.out]]
      unfold bkV
      dsimp only
      by_cases e4 : j = 3 + k
      · rw [if_pos e4, if_neg (by omega), if_neg (by omega), if_neg (by omega), if_pos (by omega)]
        unfold wsO
        rw [show j - 3 = k by omega, updO_self]
      · rw [if_neg e4]
        by_cases e3 : 3 ≤ j
        · unfold wsO
          rw [updO_ne _ _ (show j - 3 ≠ k by omega)]
        · rw [if_pos (show j < 67 by omega)]
          by_cases q0 : j = 0
          · rw [if_pos q0, if_pos q0]
          by_cases q1 : j = 1
          · rw [if_neg q0, if_neg q0, if_pos q1, if_pos q1]
          · rw [if_neg q0, if_neg q0, if_neg q1, if_neg q1, if_pos (show j = 2 by omega), if_pos (show j = 2 by omega)])
    rw [← HNOW.out] at T8
    exact T8
theorem bOpen_o (H : St w0 S0 w L) (i : Nat) (hi : L[i]? = some (BookR b s)) (hid : wfI id) (h0 : 0 ≤ dead) (h1 : dead ≤ 18446744073709551615) : Calls Tryz.prog 47 #[.pointer (some ⟨b, 0, none⟩), .int .i64 id, .int .u64 dead] w fun e w' => e = .returned (.int .i64 (opnA s id dead)) ∧ St w0 S0 w' (L.set i (BookR b (s.opn id dead))) :=
  St.call (fun w S h => by
    obtain ⟨ok, cw, mb, A, cap, hs⟩ := h
    have H0 : St w S w (BookL b cw mb A cap s ++ []) := by rw [List.append_nil]; exact St.start hs
    by_cases ha : opnA s id dead = 0
    · refine (lOpen_yes H0 ok hid h0 ha).mono fun e w' ⟨he, s'⟩ => ⟨by rw [ha]; exact he, ?_⟩
      have ok2 := ok.opn id dead
      unfold Bk.opn at ok2 ⊢
      rw [if_pos ha] at ok2 ⊢
      rw [List.append_nil] at s'
      exact s'.fin fun S' h => ⟨ok2, cw, mb, A, cap, h⟩
    · refine (lOpen_no H0 ok hid h0 h1 ha).mono fun e w' ⟨he, s'⟩ => ⟨he, ?_⟩
      unfold Bk.opn
      rw [if_neg ha]
      rw [List.append_nil] at s'
      exact s'.fin fun S' h => ⟨ok, cw, mb, A, cap, h⟩) (BookR.ok _ _) H i hi
end
end
section
set_option linter.unusedVariables false
set_option maxRecDepth 100000
set_option maxHeartbeats 2000000
/-- The cells of a book that is being made. -/
def bnV (c : Int) (cw mb k : Nat) (j : Nat) : Value :=
  if j = 0 then .int .u64 c else if j = 1 then .pointer (some ⟨cw, 0, none⟩) else if j = 2 then .map (some mb) else if j < 67 then .int .i64 (if j - 3 < k then -1 else 0) else .slice none 0 0
def bZv (j : Nat) : Value := if j = 0 then .int .u64 0 else if j = 1 then .pointer none else if j = 2 then .map none else if j < 67 then .int .i64 0 else .slice none 0 0
def bZ : Array Value := ((List.range 68).map bZv).toArray
theorem zero_bk (w : World) : (zeroValue 218).run Tryz.prog w = .ok (.agg bZ) w := by kernel_rfl
def newA (c : Int) : Int := if c < 1 ∨ 1000 < c then 1 else 0
theorem slotO_none (id : Int) : slotO (fun _ => none) id = none := by
  unfold slotO
  rw [List.find?_eq_none]
  intro x hx h
  cases of_decide_eq_true h
theorem bk_new_ok {c : Int} (h : newA c = 0) : (Bk.new c).ok := by
  unfold newA at h
  split at h
  · cases h
  rename_i h
  have no : ∀ k x, (Bk.new c).op k ≠ some x := fun k x h => by cases (show (none : Option (Int × Int)) = some x from h)
  exact ⟨by show 1 ≤ c; omega, by show c ≤ 1000; omega, Int.le_refl 0, ⟨fun k x hx => absurd hx (no k x), fun j k x y hx _ _ => absurd hx (no j x)⟩, fun k x hx => absurd hx (no k x)⟩
theorem lNew_no (w : World) {c : Int} (hc : newA c ≠ 0) : Calls Tryz.prog 91 #[.int .u64 c] w fun e w' => e = .returned (.tuple #[.pointer none, .int .i64 1]) ∧ w = w' := by
  unfold newA at hc
  by_cases h : c < 1
  · have z0 : decide (c < 1) = true := decide_eq_true h
    clear hc
    go_enter Tryz.func91, Tryz.ntmps91
    go_wp2_with fail
    go_ret2
    exact ⟨rfl, rfl⟩
  by_cases h1 : 1000 < c
  · have z0 : decide (c < 1) = false := decide_eq_false h
    have z1 : decide (1000 < c) = true := decide_eq_true h1
    clear hc
    go_enter Tryz.func91, Tryz.ntmps91
    go_wp2_with fail
    go_ret2
    exact ⟨rfl, rfl⟩
  rw [if_neg (by omega)] at hc
  exact absurd rfl hc
theorem bn_end (c : Int) (cw mb j : Nat) (hj : j < 68) : bkV (Bk.new c) cw mb none 0 j = bnV c cw mb 64 j := by
  unfold bkV bnV
  by_cases e0 : j = 0
  · subst e0; rfl
  by_cases e1 : j = 1
  · subst e1; rfl
  by_cases e2 : j = 2
  · subst e2; rfl
  by_cases e3 : j < 67
  · rw [if_neg e0, if_neg e1, if_neg e2, if_pos e3, if_neg e0, if_neg e1, if_neg e2, if_pos e3, if_pos (by omega)]; rfl
  · rw [if_neg e0, if_neg e1, if_neg e2, if_neg e3, if_neg e0, if_neg e1, if_neg e2, if_neg e3]; rfl
theorem bn_put (c : Int) (cw mb k j : Nat) (hk : k < 64) : bnV c cw mb (k + 1) j = if j = 3 + k then .int .i64 (-1) else bnV c cw mb k j := by
  unfold bnV
  by_cases e0 : j = 0
  · subst e0; rw [if_pos rfl, if_neg (by omega), if_pos rfl]
  by_cases e1 : j = 1
  · subst e1; rw [if_neg e0, if_pos rfl, if_neg (by omega), if_neg e0, if_pos rfl]
  by_cases e2 : j = 2
  · subst e2; rw [if_neg e0, if_neg e1, if_pos rfl, if_neg (by omega), if_neg e0, if_neg e1, if_pos rfl]
  rw [if_neg e0, if_neg e1, if_neg e2, if_neg e0, if_neg e1, if_neg e2]
  by_cases e3 : j < 67
  · rw [if_pos e3, if_pos e3]
    by_cases e4 : j = 3 + k
    · rw [if_pos e4, if_pos (by omega)]
    · rw [if_neg e4]
      by_cases e5 : j - 3 < k
      · rw [if_pos e5, if_pos (by omega)]
      · rw [if_neg e5, if_neg (by omega)]
  · rw [if_neg e3, if_neg e3, if_neg (by omega)]
theorem bn_start (c : Int) (cw mb : Nat) (i : Nat) (hi : i < 68) : (((bZ.setIfInBounds 0 (.int .u64 c)).setIfInBounds 1 (.pointer (some ⟨cw, 0, none⟩))).setIfInBounds 2 (.map (some mb)))[i]? = some (bnV c cw mb 0 i) := by
  by_cases e2 : i = 2
  · subst e2; simp [bZ, bnV]
  rw [Array.getElem?_setIfInBounds_ne (by omega)]
  by_cases e1 : i = 1
  · subst e1; simp [bZ, bnV]
  rw [Array.getElem?_setIfInBounds_ne (by omega)]
  by_cases e0 : i = 0
  · subst e0; simp [bZ, bnV]
  rw [Array.getElem?_setIfInBounds_ne (by omega)]
  have e3 : bZ[i]? = some (bZv i) := by simp [bZ, hi]
  rw [e3]; unfold bZv bnV; rw [if_neg e0, if_neg e1, if_neg e2, if_neg e0, if_neg e1, if_neg e2]
  simp
theorem lNew_c (w : World) {c : Int} (hc : newA c = 0) : Calls Tryz.prog 91 #[.int .u64 c] w fun e w' => ∃ b cw mb, e = .returned (.tuple #[.pointer (some ⟨b, 0, none⟩), .int .i64 0]) ∧ St w None w' (BookL b cw mb none 0 (Bk.new c)) := by
  have zq := zero_bk
  have zs : bZ.size = 68 := by simp [bZ]
  have hmm := @run_makeMap Tryz.prog
  have h01 : 1 ≤ c ∧ c ≤ 1000 := by
    unfold newA at hc
    split at hc
    · cases hc
    · omega
  obtain ⟨h0, h1⟩ := h01
  have z0 : decide (c < 1) = false := decide_eq_false (by omega)
  have z1 : decide (1000 < c) = false := decide_eq_false (by omega)
  have WN := Lib.hid (wNew_o (St.begin w))
  clear hc
  go_enter Tryz.func91, Tryz.ntmps91
  go_wp2_with fail
  refine WN.out.mono ?_
  rintro e w1 ⟨cw, rfl, s1⟩
  have s2 := s1.mapz_new Tryz.prog 3
  have s3 := s2.box_arr 218 (((bZ.setIfInBounds 0 (.int .u64 c)).setIfInBounds 1 (.pointer (some ⟨cw, 0, none⟩))).setIfInBounds 2 (.map (some w1.heap.size))) 68 (bnV c cw w1.heap.size 0) (by simp [bZ]) (fun i hi => bn_start c cw _ i hi)
  rw [show (w1.alloc (.map #[] 0)).heap.size = w1.heap.size + 1 by simp] at s3
  have s4 := s3.comm (A := [WheelR cw 0 (fun _ => none), MapZR Tryz.prog 3 w1.heap.size 0 (fun _ => none)])
  have S4 := Lib.hid s4
  clear s1 s2 s3 s4 WN
  go_wp2_with fail
  go_loopw [17] (fun x wr => ∃ k : Nat, k ≤ 64 ∧ x = .int .i64 (k : Int) ∧ St w None wr [ArrR (w1.heap.size + 1) 218 68 (bnV c cw w1.heap.size k), WheelR cw 0 (fun _ => none), MapZR Tryz.prog 3 w1.heap.size 0 (fun _ => none)]) (fun x _ => 64 - (intOf x).toNat)
  case atStart => exact ⟨0, by omega, rfl, S4.out⟩
  case round =>
    clear S4
    obtain ⟨k, hk, rfl, sr⟩ := hrel
    generalize w1.heap.size = mb at *
    by_cases hlt : k < 64
    · have t1 : decide ((k : Int) < 64) = true := decide_eq_true (by omega)
      have t1' : decide (k < 64) = true := decide_eq_true hlt
      have v0 : (0 : Int) ≤ (k : Int) := by omega
      have c1 := sr.arr_cell 0 rfl (k := 3 + k) (by omega)
      have c2 := sr.arr_frozen 0 rfl (3 + k)
      unfold bnV at c1
      rw [if_neg (by omega), if_neg (by omega), if_neg (by omega), if_pos (by omega)] at c1
      have s5 := (sr.arr_set 0 rfl (k := 3 + k) (by omega) (.int .i64 (-1))).arr_like (V' := bnV c cw mb (k + 1)) 0 rfl (fun j hj => bn_put c cw mb k j hlt)
      have S5 := Lib.hid s5
      clear sr s5
      go_wp2_with fail
      go_roundw
      case rel => exact ⟨k + 1, by omega, by go_num, S5.out⟩
      case measure => simp [intOf]; omega
    · obtain rfl : k = 64 := by omega
      have S5 := Lib.hid sr
      clear sr
      go_wp2_with fail
      go_ret2
      refine ⟨_, cw, mb, rfl, ?_⟩
      have t := (S5.out.arr_like (V' := bkV (Bk.new c) cw mb none 0) 0 rfl (fun j hj => bn_end c cw mb j hj)).lis_nil 82 3
      have e1 : (Bk.new c).T = fun _ => none := by
        funext i; show (if 0 ≤ i ∧ i < 64 then none else none) = none; split <;> rfl
      have e2 : cntO (Bk.new c).op = 0 := cf_none 64
      have e3 : mapO (Bk.new c).op = fun _ => none := by
        funext i; unfold mapO; rw [show slotO (Bk.new c).op i = none from slotO_none i]; rfl
      unfold BookL
      rw [e1, e2, e3]
      exact t
theorem bNew_o {w0 w : World} {S0 : Nat → Prop} {L : List Res} {c : Int} (H : St w0 S0 w L) (hc : newA c = 0) : Calls Tryz.prog 91 #[.int .u64 c] w fun e w' => ∃ b, e = .returned (.tuple #[.pointer (some ⟨b, 0, none⟩), .int .i64 0]) ∧ St w0 S0 w' (L ++ [BookR b (Bk.new c)]) :=
  (lNew_c w hc).mono fun e w' ⟨b, cw, mb, he, s⟩ => ⟨b, he, by
    obtain ⟨S, hs, hd⟩ := s
    exact H.more hd.to_below (Star.one (BookR.ok _ _) ⟨bk_new_ok hc, cw, mb, none, 0, hs⟩) fun b hb => (hd.own b hb).resolve_left id⟩
end
end Go.Proofs.YtdjhpdacglojaaaGreat
