/- Bytes that are copied into a list, and a list that is cleared; nothing of one law. -/
import Derived.Test.YtdjhpdacglojaaaGreatLis
import Derived.Laws.CopyOwn
import Derived.Lib.SliceRun
namespace Go.Proofs.YtdjhpdacglojaaaGreat
open Go.RowKit
set_option linter.unusedVariables false
section
variable {w : World} {e : TypeId}
theorem run_copy_lis {P : Program} (dT sT ty elem : TypeId) (hu : P.underlying dT = some (.slice elem)) (hsz : (P.info? elem).map (·.size) = some 1) {g o n cap : Nat} {xs : List Value} (h : Lis w e 1 (.slice (some ⟨g, o, none⟩) n cap) n xs) (k : Nat) (hk : k ≤ n)
    (dp : Option Addr) (dCap : Nat) (hdp : k < n → dp = some ⟨g, o + k, none⟩) (sp : Option Addr) (sLen sCap : Nat) (src : List Value) (hr : Rds w sp sLen 1 src) (h1 : ∀ v ∈ src, v.oneCell' = true) :
    ∃ w', (Builtin.copy_ #[dT, sT] ty #[.slice dp (n - k) dCap, .slice sp sLen sCap]).run P w = .ok (goInt (min sLen (n - k) : Nat)) w' ∧ Lis w' e 1 (.slice (some ⟨g, o, none⟩) n cap) n (xs.take k ++ src.take (min sLen (n - k)) ++ xs.drop (k + min sLen (n - k))) ∧ Only g w w' := by
  obtain ⟨m, hm⟩ : ∃ m, min sLen (n - k) = m := ⟨_, rfl⟩
  rw [hm]
  have hsl : src.length = sLen := by simpa using hr.1
  have hxl : xs.length = n := by simpa using h.1
  by_cases h0 : m = 0
  · subst h0
    refine ⟨w, run_copy_none (P := P) w dT sT ty elem dp sp (n - k) dCap sLen sCap hu hsz hm, ?_, Only.refl g w⟩
    simpa using h
  · rcases h.2 with ⟨ha, hb⟩ | ⟨g', o', cap', arr, hv, hh, hnc, hmx, hs, hc⟩
    · omega
    · injection hv with hv1 _ hv2
      obtain ⟨rfl, rfl⟩ : g = g' ∧ o = o' := by simpa using hv1
      subst hv2
      have hsz2 : o + cap * 1 ≤ arr.size := hs (by omega)
      obtain ⟨sg, so, rfl, hsc⟩ := hr.2.resolve_left (by omega)
      have hcl : (src.take m).length = m := by rw [List.length_take]; omega
      rw [hdp (by omega)]
      have hrun := run_copy_row (P := P) w dT sT ty elem g (o + k) (n - k) dCap ⟨sg, so, none⟩ sLen sCap arr e (src.take m) hu hsz hh (by rw [hcl, ← hm])
        (fun j v hj => by
          have hj2 : src[j]? = some v := by
            rw [List.getElem?_take] at hj
            split at hj
            · exact hj
            · cases hj
          have := hsc j v hj2
          rw [Go.WideShapes.add_plain]; exact this)
        (by rw [hcl]; omega) (fun v hv => h1 v (List.mem_of_mem_take hv))
      rw [hcl] at hrun
      refine ⟨_, hrun, ⟨?_, Or.inr ⟨g, o, cap, _, rfl, setRow_heap w g _ _ e _ hh, hnc, hmx, fun _ => ?_, fun j u hu => ?_⟩⟩, ⟨rfl, rfl, rfl, by simp [World.setRow], fun x hx hne => setRow_other w g x _ hne⟩⟩
      · simp; omega
      · simp; omega
      · have key : ∀ q, (arr.toList.take (o + k) ++ src.take m ++ arr.toList.drop (o + k + m))[q]? = if q < o + k then arr[q]? else if q < o + k + m then src[q - (o + k)]? else arr[q]? := by
          intro q
          by_cases q1 : q < o + k
          · rw [if_pos q1, List.append_assoc, List.getElem?_append_left (by simp; omega), List.getElem?_take, if_pos q1]; simp
          · rw [if_neg q1]
            by_cases q2 : q < o + k + m
            · rw [if_pos q2, List.getElem?_append_left (by simp; omega), List.getElem?_append_right (by simp; omega), List.getElem?_take]
              have : (arr.toList.take (o + k)).length = o + k := by simp; omega
              rw [this, if_pos (by omega)]
            · rw [if_neg q2, List.getElem?_append_right (by simp; omega), List.getElem?_drop]
              have : (arr.toList.take (o + k) ++ src.take m).length = o + k + m := by simp; omega
              rw [this, show o + k + m + (q - (o + k + m)) = q by omega]; simp
        have hq := key (o + j)
        have hj : (xs.take k ++ src.take m ++ xs.drop (k + m))[j]? = if j < k then xs[j]? else if j < k + m then src[j - k]? else xs[j]? := by
          by_cases q1 : j < k
          · rw [if_pos q1, List.append_assoc, List.getElem?_append_left (by simp; omega), List.getElem?_take, if_pos q1]
          · rw [if_neg q1]
            by_cases q2 : j < k + m
            · rw [if_pos q2, List.getElem?_append_left (by simp; omega), List.getElem?_append_right (by simp; omega), List.getElem?_take]
              have : (xs.take k).length = k := by simp; omega
              rw [this, if_pos (by omega)]
            · rw [if_neg q2, List.getElem?_append_right (by simp; omega), List.getElem?_drop]
              have : (xs.take k ++ src.take m).length = k + m := by simp; omega
              rw [this, show k + m + (j - (k + m)) = j by omega]
        rw [hj] at hu
        rw [List.getElem?_toArray, hq]
        by_cases q1 : j < k
        · rw [if_pos q1] at hu
          rw [if_pos (by omega)]
          exact hc j u hu
        · rw [if_neg q1] at hu
          rw [if_neg (by omega)]
          by_cases q2 : j < k + m
          · rw [if_pos q2] at hu
            rw [if_pos (by omega), show o + j - (o + k) = j - k by omega]
            exact hu
          · rw [if_neg q2] at hu
            rw [if_neg (by omega)]
            exact hc j u hu
/-- Copying, as a step of a region that draws its order. -/
theorem step_copy {P : Program} {ops : Array Oper} {o : Oper} {a : Act} {K : Act → World → Prop} {Q : Exit → Act → World → Prop} {E : Prop} (hgd : o.guard = none) (d s : Operand) (dT sT : TypeId)
    (ho : o.op = .call { callee := .builtin .copy, args := #[d, s], argTypes := #[dT, sT] }) (elem : TypeId) (hu : P.underlying dT = some (.slice elem)) (hsz : (P.info? elem).map (·.size) = some 1)
    {g of n cap : Nat} {xs : List Value} (h : Lis w e 1 (.slice (some ⟨g, of, none⟩) n cap) n xs) (k : Nat) (hk : k ≤ n) (dp : Option Addr) (dCap : Nat) (hdp : k < n → dp = some ⟨g, of + k, none⟩) (sp : Option Addr) (sLen sCap : Nat) (hd : a.eval d = .slice dp (n - k) dCap) (hs : a.eval s = .slice sp sLen sCap)
    (src : List Value) (hr : Rds w sp sLen 1 src) (h1 : ∀ v ∈ src, v.oneCell' = true)
    (hK : ∀ w', Lis w' e 1 (.slice (some ⟨g, of, none⟩) n cap) n (xs.take k ++ src.take (min sLen (n - k)) ++ xs.drop (k + min sLen (n - k))) → Only g w w' → K (a.put o.dst (goInt (min sLen (n - k) : Nat))) w') :
    if Region.wanted o (yielded ops a.tmps) = true then Oper.wp P o a w K Q else E := by
  have hw : Region.wanted o (yielded ops a.tmps) = true := by simp [Region.wanted, hgd]
  rw [if_pos hw]
  obtain ⟨w', hrun, hl, hb⟩ := run_copy_lis (P := P) (w := w) dT sT o.type elem hu hsz h k hk dp dCap hdp sp sLen sCap src hr h1
  unfold Oper.wp execOp
  simp only [ho, resolve, invoke, builtin, Sem.run_bind, Sem.run_pure, Result.andThen_ok, List.map_toArray, List.map_cons, List.map_nil, hd, hs, hrun]
  exact hK w' hl hb
theorem run_clear_lis {P : Program} (t ty : TypeId) (z : Value) (ht : P.underlying t = some (.slice e)) (hv : ∀ w, (zeroValue e).run P w = .ok z w) (hz : z.cells = #[z]) (h1 : z.oneCell' = true) {g o n cap : Nat} {xs : List Value} (h : Lis w e 1 (.slice (some ⟨g, o, none⟩) n cap) n xs) (hn : 0 < n) :
    ∃ w', (Builtin.clear_ #[t] ty #[.slice (some ⟨g, o, none⟩) n cap]).run P w = .ok (.tuple #[]) w' ∧ Lis w' e 1 (.slice (some ⟨g, o, none⟩) n cap) n (List.replicate n z) ∧ Only g w w' := by
  rcases h.2 with ⟨ha, hb⟩ | ⟨g', o', cap', arr, hv', hh, hnc, hmx, hs, hc⟩
  · omega
  · injection hv' with hv1 _ hv2
    obtain ⟨rfl, rfl⟩ : g = g' ∧ o = o' := by simpa using hv1
    subst hv2
    have hsz2 : o + cap * 1 ≤ arr.size := hs (by omega)
    have hin : ∀ j, j < n → (w.cell? ⟨g, o + j, none⟩).isSome = true := fun j hj => by simp [World.cell?, hh]; omega
    have hrun := Lib.run_clear_slice (P := P) w t e ty z ht hv hz h1 g o n cap hn hin (fun j hj => h.frozen _)
    obtain ⟨arr', h2, h3⟩ := heap_setCells g e (List.replicate n z) o w arr hh
    refine ⟨_, hrun, ⟨by simp, Or.inr ⟨g, o, cap, arr', rfl, h2, hnc, hmx, fun _ => by rw [h3]; exact hsz2, fun j u hu => ?_⟩⟩, ⟨World.os_setCells _ _ _ _, tape_setCells g _ o w, World.output_setCells _ _ _ _, Nat.le_of_eq (size_setCells_ g _ o w).symm, fun k hk hne => World.heap_setCells_other w g _ _ hk hne⟩⟩
    have hj : j < n := by
      rcases Nat.lt_or_ge j n with h | h
      · exact h
      · rw [List.getElem?_eq_none (by simp; omega)] at hu; cases hu
    have he : u = z := by simpa [hj] using hu.symm
    have := World.cell?_setCells_in g (List.replicate n z) o w (by simpa using hin) j (by simpa using hj)
    rw [he]
    simpa [World.cell?, h2] using this
/-- Clearing, as an operation of a plain region. -/
theorem wpList_clear {P : Program} {ops : Array Oper} {rest : List Oper} {o : Oper} {a : Act} {Q : Exit → Act → World → Prop} (hgd : o.guard = none) (s : Operand) (t : TypeId)
    (ho : o.op = .call { callee := .builtin .clear, args := #[s], argTypes := #[t] }) (z : Value) (ht : P.underlying t = some (.slice e)) (hv : ∀ w, (zeroValue e).run P w = .ok z w) (hz : z.cells = #[z]) (h1 : z.oneCell' = true) {g of n cap : Nat} {xs : List Value} (hs : a.eval s = .slice (some ⟨g, of, none⟩) n cap) (h : Lis w e 1 (.slice (some ⟨g, of, none⟩) n cap) n xs) (hn : 0 < n)
    (hK : ∀ w', Lis w' e 1 (.slice (some ⟨g, of, none⟩) n cap) n (List.replicate n z) → Only g w w' → wpList P ops Q rest (a.put o.dst (.tuple #[])) w') : wpList P ops Q (o :: rest) a w :=
  wpList_plain hgd fun K hK2 => by
    obtain ⟨w', hrun, h2, h3⟩ := run_clear_lis (P := P) (w := w) t o.type z ht hv hz h1 h hn
    unfold Oper.wp execOp
    simp only [ho, resolve, invoke, builtin, Sem.run_bind, Sem.run_pure, Result.andThen_ok, List.map_toArray, List.map_cons, List.map_nil, hs, hrun]
    exact hK2 _ _ (hK w' h2 h3)
end
end Go.Proofs.YtdjhpdacglojaaaGreat
