/- Layer 17: a processor in memory. -/
import Derived.Test.YtdemhhmceiaohaaRows
import Derived.Test.YtdemhhmceiaohaaGrid
import Derived.Test.YtdemhhmceiaohaaFam
import Derived.Test.YtdemhhmceiaohaaSporO
import Derived.Test.YtdemhhmceiaohaaReadyG
namespace Go.Proofs.Ytdemhhmceiaohaa
open Go.RowKit
set_option linter.unusedVariables false
set_option maxRecDepth 100000
set_option maxHeartbeats 400000
/-- A task: what was handed in, and its job. -/
structure CTk where
  prio : Int
  cost : Int
  per : Int
  dead : Int
  began : Bool
  rel : Int
  there : Bool
  dem : Int
  ran : Int
  unt : Int
/-- A server: where its budget lies, its work, the budget. -/
structure Sv where
  bp : Nat
  work : Int
  B : Int
  P : Int
  N : Int
  xs : List Int
def tkv (T : Nat → CTk) (j : Nat) : Nat → Value
  | 0 => .int .i64 (T j).prio
  | 1 => .int .u64 (T j).cost
  | 2 => .int .u64 (T j).per
  | 3 => .int .u64 (T j).dead
  | 4 => .bool (T j).began
  | 5 => .int .u64 (T j).rel
  | 6 => .bool (T j).there
  | 7 => .int .u64 (T j).dem
  | 8 => .int .u64 (T j).ran
  | _ => .int .u64 (T j).unt
def svv (V : Nat → Sv) (j : Nat) : Nat → Value
  | 0 => .pointer (some ⟨(V j).bp, 0, none⟩)
  | _ => .int .u64 (V j).work
def bdR (V : Nat → Sv) (k : Nat) : Res := BudR (V k).bp (V k).B (V k).P (V k).N (V k).xs
/-- Where its parts lie. -/
structure Pl where
  c : Nat
  q : Nat
  A : Option Addr
  ca : Nat
  n : Nat
  E : Option Addr
  ce : Nat
  m : Nat
def CpuL (p : Pl) (T : Nat → CTk) (V : Nat → Sv) (now : Int) (s : QS) : List Res :=
  [BlkR p.c 74 #[.slice p.A p.n p.ca, .slice p.E p.m p.ce, .pointer (some ⟨p.q, 0, none⟩), .int .u64 now],
   LisR 76 10 (.slice p.A p.n p.ca) p.n (grid p.n 10 (tkv T)),
   LisR 81 2 (.slice p.E p.m p.ce) p.m (grid p.m 2 (svv V)),
   QueR p.q s] ++ (List.range p.m).map (bdR V)
theorem Blk.four4 {w : World} {g : Nat} {t : TypeId} {x y z u : Value} (h : Blk w g t #[x, y, z, u]) : w.cell? ⟨g, 0, none⟩ = some x ∧ w.cell? ⟨g, 1, none⟩ = some y ∧ w.cell? ⟨g, 2, none⟩ = some z ∧ w.cell? ⟨g, 3, none⟩ = some u :=
  ⟨by have := h.cell 0; simpa using this, by have := h.cell 1; simpa using this, by have := h.cell 2; simpa using this, by have := h.cell 3; simpa using this⟩
section
variable {w0 w : World} {S0 : Nat → Prop} {X : List Res} {p : Pl} {T T' : Nat → CTk} {V V' : Nat → Sv} {now : Int} {s : QS}
theorem cpu_box (H : St w0 S0 w (CpuL p T V now s ++ X)) : w.cell? ⟨p.c, 0, none⟩ = some (.slice p.A p.n p.ca) ∧ w.cell? ⟨p.c, 1, none⟩ = some (.slice p.E p.m p.ce) ∧ w.cell? ⟨p.c, 2, none⟩ = some (.pointer (some ⟨p.q, 0, none⟩)) ∧ w.cell? ⟨p.c, 3, none⟩ = some (.int .u64 now) := (H.blk 0 rfl).four4
theorem cpu_box_frozen (H : St w0 S0 w (CpuL p T V now s ++ X)) (k : Nat) : w.frozen? ⟨p.c, k, none⟩ = false := (H.blk 0 rfl).frozen k
theorem cpu_lis (H : St w0 S0 w (CpuL p T V now s ++ X)) : Lis w 76 10 (.slice p.A p.n p.ca) p.n (grid p.n 10 (tkv T)) := H.lis 1 rfl
theorem cpu_slis (H : St w0 S0 w (CpuL p T V now s ++ X)) : Lis w 81 2 (.slice p.E p.m p.ce) p.m (grid p.m 2 (svv V)) := H.lis 2 rfl
/-- The cells of a task. -/
theorem cpu_task (H : St w0 S0 w (CpuL p T V now s ++ X)) {j : Nat} (hj : j < p.n) : ∃ g off, p.A = some ⟨g, off, none⟩ ∧ (∀ k, k < 10 → w.cell? ⟨g, off + j * 10 + k, none⟩ = some (tkv T j k)) ∧ ∀ o, w.frozen? ⟨g, o, none⟩ = false := by
  have h := cpu_lis H
  rcases h.reads.2 with h0 | ⟨g, off, hA, hc⟩
  · omega
  · refine ⟨g, off, hA, fun k hk => ?_, fun o => ?_⟩
    · rw [Nat.add_assoc]; exact hc _ _ (grid_at (tkv T) hj hk)
    · rw [hA] at h; exact h.frozen o
theorem cpu_server (H : St w0 S0 w (CpuL p T V now s ++ X)) {j : Nat} (hj : j < p.m) : ∃ g off, p.E = some ⟨g, off, none⟩ ∧ w.cell? ⟨g, off + j * 2, none⟩ = some (.pointer (some ⟨(V j).bp, 0, none⟩)) ∧ w.cell? ⟨g, off + j * 2 + 1, none⟩ = some (.int .u64 (V j).work) ∧ ∀ o, w.frozen? ⟨g, o, none⟩ = false := by
  have h := cpu_slis H
  rcases h.reads.2 with h0 | ⟨g, off, hA, hc⟩
  · omega
  · refine ⟨g, off, hA, ?_, ?_, fun o => ?_⟩
    · exact hc _ _ (grid_at (svv V) hj (k := 0) (by omega))
    · rw [Nat.add_assoc]; exact hc _ _ (grid_at (svv V) hj (k := 1) (by omega))
    · rw [hA] at h; exact h.frozen o
theorem cpu_bud {j : Nat} (hj : j < p.m) : (CpuL p T V now s ++ X)[4 + j]? = some (bdR V j) := by
  rw [List.getElem?_append_left (by simp [CpuL]; omega)]
  exact fam_at [_, _, _, _] _ hj
def updK {α : Type} (T : Nat → α) (i : Nat) (t : α) : Nat → α := fun j => if j = i then t else T j
theorem updK_self {α : Type} (T : Nat → α) (i : Nat) (t : α) : updK T i t i = t := by simp [updK]
theorem updK_ne {α : Type} (T : Nat → α) {i j : Nat} (t : α) (h : j ≠ i) : updK T i t j = T j := by simp [updK, h]
/-- A cell of a task is laid anew. -/
theorem cpu_set (H : St w0 S0 w (CpuL p T V now s ++ X)) {i k : Nat} {g off : Nat} (hA : p.A = some ⟨g, off, none⟩) (hi : i < p.n) (hk : k < 10) (u : Value) (t : CTk) (hv : ∀ k', k' < 10 → tkv (updK T i t) i k' = if k' = k then u else tkv T i k') :
    St w0 S0 (w.setCell ⟨g, off + i * 10 + k, none⟩ u) (CpuL p (updK T i t) V now s ++ X) := by
  obtain ⟨c, q, A, ca, n, E, ce, m⟩ := p
  dsimp only at hA hi
  subst hA
  have h := H.lis_set 1 rfl (k := i * 10 + k) (by show i * 10 + k < n * 10; omega) u
  have e := grid_set (n := n) (m := 10) (tkv T) u hi hk
  rw [← Nat.add_assoc] at h
  show St w0 S0 _ (([_, LisR _ _ _ _ (grid n 10 (tkv (updK T i t))), _, _] ++ _) ++ X)
  rw [grid_like (V := tkv (updK T i t)) (V' := upd2 (tkv T) i k u) fun j k' hj hk' => by
    unfold upd2
    by_cases e : j = i
    · subst e
      rw [hv k' hk']
      by_cases e2 : k' = k
      · rw [if_pos e2, if_pos ⟨rfl, e2⟩]
      · rw [if_neg e2, if_neg fun h => e2 h.2]
    · rw [if_neg fun h => e h.1]
      have : updK T i t j = T j := updK_ne T t e
      unfold tkv; rw [this], ← e]
  exact h
/-- A server's work is laid anew. -/
theorem cpu_wset (H : St w0 S0 w (CpuL p T V now s ++ X)) {i : Nat} {g off : Nat} (hA : p.E = some ⟨g, off, none⟩) (hi : i < p.m) (x : Int) :
    St w0 S0 (w.setCell ⟨g, off + i * 2 + 1, none⟩ (.int .u64 x)) (CpuL p T (updK V i { V i with work := x }) now s ++ X) := by
  obtain ⟨c, q, A, ca, n, E, ce, m⟩ := p
  dsimp only at hA hi
  subst hA
  have h := H.lis_set 2 rfl (k := i * 2 + 1) (by show i * 2 + 1 < m * 2; omega) (.int .u64 x)
  have e := grid_set (n := m) (m := 2) (svv V) (.int .u64 x) hi (show 1 < 2 by omega)
  rw [← Nat.add_assoc] at h
  have hb : (List.range m).map (bdR V) = (List.range m).map (bdR (updK V i { V i with work := x })) := fam_like fun j hj => by
    unfold bdR
    by_cases e : j = i
    · subst e; rw [updK_self]
    · rw [updK_ne V _ e]
  show St w0 S0 _ (([_, _, LisR _ _ _ _ (grid m 2 (svv (updK V i { V i with work := x }))), _] ++ (List.range m).map (bdR (updK V i { V i with work := x }))) ++ X)
  rw [← hb, grid_like (V := svv (updK V i { V i with work := x })) (V' := upd2 (svv V) i 1 (.int .u64 x)) fun j k' hj hk' => by
    unfold upd2
    by_cases e : j = i
    · subst e
      rcases (show k' = 0 ∨ k' = 1 by omega) with rfl | rfl
      · rw [if_neg (by omega)]; unfold svv; rw [updK_self]; rfl
      · rw [if_pos ⟨rfl, rfl⟩]; unfold svv; rw [updK_self]; rfl
    · rw [if_neg fun h => e h.1]
      have : updK V i { V i with work := x } j = V j := updK_ne V _ e
      unfold svv; rw [this], ← e]
  exact h
/-- The time is laid anew. -/
theorem cpu_tset (H : St w0 S0 w (CpuL p T V now s ++ X)) (x : Int) : St w0 S0 (w.setCell ⟨p.c, 3, none⟩ (.int .u64 x)) (CpuL p T V x s ++ X) := H.set_ 0 rfl 3 (.int .u64 x)
end
end Go.Proofs.Ytdemhhmceiaohaa
