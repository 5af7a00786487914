/- Layer 25: numbers appended, each with a mark ahead. -/
import Derived.Test.YtlceanlenekanaaDoorTraD
namespace Go.Proofs.YtlceanlenekanaaDoor
open Go.RowKit
set_option linter.unusedVariables false
set_option maxRecDepth 100000
set_option maxHeartbeats 4000000
/-- A part as a value. -/
def itV : It → Value
  | .m r => .iface 70 (.int .i32 r)
  | .n x => .iface 3 (.int .i64 x)
def itVs (l : List It) : List Value := l.map itV
theorem itVs_app (a b : List It) : itVs (a ++ b) = itVs a ++ itVs b := by unfold itVs; rw [List.map_append]
theorem itVs_len (l : List It) : (itVs l).length = l.length := List.length_map ..
theorem eachI_snoc (m : Int) (xs : List Int) (i : Nat) (x : Int) (h : xs[i]? = some x) : eachI m (xs.take (i + 1)) = eachI m (xs.take i) ++ [.m m, .n x] := by
  unfold eachI
  rw [take_snoc h, List.flatMap_append]
  rfl
theorem eachI_len (m : Int) : ∀ xs : List Int, (eachI m xs).length = 2 * xs.length
  | [] => rfl
  | x :: xs => by
    have := eachI_len m xs
    unfold eachI at this ⊢
    rw [List.flatMap_cons, List.length_append, this]
    show 2 + _ = 2 * (xs.length + 1)
    omega
theorem rdI_box (w : World) (x : Int) : RdI (w.alloc (.cells #[.int .i64 x] 3)) (some ⟨w.heap.size, 0, none⟩) [x] := fun i y h => by
  match i, h with
  | 0, h =>
    injection h with h
    subst h
    exact ⟨w.heap.size, 0, rfl, by simp, (Blk.new w 3 #[.int .i64 x]).cell 0⟩
theorem grown_rdI {w w' : World} {b : Option Nat} {A : Option Addr} {xs : List Int} (h : RdI w A xs) (hg : w.grownBy w' b) (hd : ∀ g o, A = some ⟨g, o, none⟩ → b ≠ some g) : RdI w' A xs := fun i x hx => by
  obtain ⟨g, o, e, h1, h2⟩ := h i x hx
  refine ⟨g, o, e, Nat.lt_of_lt_of_le h1 hg.size, ?_⟩
  rw [← h2]
  exact World.cell?_of_block (w := w) (hg.block g h1 fun e2 => hd g o e e2.symm)
theorem rds_two (w : World) (e : TypeId) (u v : Value) : Rds (w.alloc (.cells #[u, v] e)) (some ⟨w.heap.size, 0, none⟩) 2 1 [u, v] :=
  ⟨rfl, Or.inr ⟨_, _, rfl, fun j x hx => by
    match j, hx with
    | 0, hx => rw [(Blk.new w e #[u, v]).cell]; simpa using hx
    | 1, hx => rw [(Blk.new w e #[u, v]).cell]; simpa using hx
    | j + 2, hx => simp at hx⟩⟩
theorem marked_o {w0 w : World} {S0 : Nat → Prop} {L : List Res} {q k cB n c : Nat} {B A : Option Addr} {its : List It} {xs : List Int} (r : Int) (H : St w0 S0 w L) (hq : L[q]? = some (LisR 20 1 (.slice B k cB) k (itVs its))) (hn : xs.length = n) (hn2 : n ≤ 100000) (hk : k ≤ 1000000) (hA : RdI w A xs)
    (hd : ∀ g o, A = some ⟨g, o, none⟩ → (Value.slice B k cB).ownBlock ≠ some g) :
    Calls Tryd.prog 34 #[.slice B k cB, .int .i32 r, .slice A n c] w fun e w' => ∃ B' c', e = .returned (.slice B' (k + 2 * n) c') ∧ St w0 S0 w' (L.set q (LisR 20 1 (.slice B' (k + 2 * n) c') (k + 2 * n) (itVs (its ++ eachI r xs)))) := by
  obtain ⟨iA, hiA, hzA, hsA, hbA⟩ := info3c YtlceanlenekanaaDooriA
  have hql : q < L.length := (List.getElem?_eq_some_iff.1 hq).1
  have HH := Lib.hid H
  have HQ := Lib.hid hq
  have HA := Lib.hid hA
  have HD := Lib.hid hd
  clear H hq hA hd
  go_enter Tryd.func34, Tryd.ntmps34
  go_wp2
  go_loopw [0, 8, 11] (fun x0 _ x11 wr => ∃ (i cB' : Nat) (B' : Option Addr), i ≤ n ∧ x0 = .slice B' (k + 2 * i) cB' ∧ x11 = .int .i64 (i : Int) ∧ RdI wr A xs ∧ (∀ g o, A = some ⟨g, o, none⟩ → (Value.slice B' (k + 2 * i) cB').ownBlock ≠ some g) ∧ St w0 S0 wr (L.set q (LisR 20 1 (.slice B' (k + 2 * i) cB') (k + 2 * i) (itVs (its ++ eachI r (xs.take i)))))) (fun _ _ x11 _ => n - (intOf x11).toNat)
  case atStart => exact ⟨0, cB, B, Nat.zero_le _, rfl, rfl, HA.out, HD.out, by
    rw [List.take_zero, show its ++ eachI r [] = its from List.append_nil _, show k + 2 * 0 = k by omega, set_same HQ.out]
    exact HH.out⟩
  case round =>
  obtain ⟨i, cB', B', hi, rfl, rfl, hrd, hds, hst⟩ := hrel
  by_cases hlt : i < n
  · have z1 : decide ((i : Int) < (n : Int)) = true := decide_eq_true (by omega)
    obtain ⟨x, hx⟩ : ∃ x, xs[i]? = some x := ⟨xs[i]'(by omega), List.getElem?_eq_getElem _⟩
    obtain ⟨g, o, rfl, hg, c1⟩ := hrd i x hx
    have HX := Lib.hid (eachI_snoc r xs i x hx)
    have S3 := Lib.hid (hst.alloc (.cells #[.iface 70 (.int .i32 r), .iface 3 (.int .i64 x)] 20))
    have HL := Lib.hid (S3.out.lis q (List.getElem?_set_self hql))
    have RB := Lib.hid (rds_two wr 20 (.iface 70 (.int .i32 r)) (.iface 3 (.int .i64 x)))
    have RD := Lib.hid (hrd.on2 ((Below.refl wr.heap.size wr).alloc (Nat.le_refl _) (.cells #[.iface 70 (.int .i32 r), .iface 3 (.int .i64 x)] 20)))
    have DS := Lib.hid hds
    have hgl : g < (wr.alloc (.cells #[.iface 70 (.int .i32 r), .iface 3 (.int .i64 x)] 20)).heap.size := by simp; omega
    have HGL := Lib.hid hgl
    clear hrd hst hx hds hgl
    go_wp2_with (first | (at_builtin; refine wpList_lis rfl (.tmp 15) (.tmp 20) 44 rfl 20 iA .nilIface 1 16 Tryd.underlying44 hiA hzA hsA hbA rfl (by decide) _ _ _ rfl HL.out _ 2 2 [.iface 70 (.int .i32 r), .iface 3 (.int .i64 x)] rfl RB.out (by simp [Value.oneCell']) (by unfold maxLen; omega) (by omega) ?_; intro B6 c6 w6 hl6 hg6 hat6; have S6 := Lib.hid (S3.out.lis_put q (List.getElem?_set_self hql) hl6 hg6 hat6); have G6 := Lib.hid hg6; have T6 := Lib.hid hat6; clear hl6 hg6 hat6) | fail)
    go_roundw
    case rel =>
      refine ⟨i + 1, c6, B6, by omega, rfl, by go_num, grown_rdI RD.out G6.out DS.out, fun g' o' e => ?_, ?_⟩
      · injection e with e
        injection e with e1 e2
        subst e1
        rcases T6.out with h | ⟨b, h, hb⟩
        · rw [show k + 2 * (i + 1) = k + 2 * i + 2 by omega, h]; exact DS.out g o rfl
        · rw [show k + 2 * (i + 1) = k + 2 * i + 2 by omega, h]
          intro e3
          injection e3 with e3
          have := HGL.out
          omega
      · have s6 := S6.out
        rw [List.set_set, ← show itVs [.m r, .n x] = [.iface 70 (.int .i32 r), .iface 3 (.int .i64 x)] from rfl, ← itVs_app, List.append_assoc, ← HX.out] at s6
        exact s6
    case measure => simp [intOf]; omega
  obtain rfl : i = n := by omega
  have z1 : decide ((i : Int) < (i : Int)) = false := decide_eq_false (by omega)
  rw [List.take_of_length_le (by omega)] at hst
  go_wp2
  go_ret
  exact ⟨B', cB', rfl, hst⟩
/-- A list's own block is none of those that were there. -/
theorem St.lis_young {w0 w : World} {L : List Res} {q : Nat} {e : TypeId} {s n : Nat} {v : Value} {xs : List Value} (H : St w0 None w L) (hq : L[q]? = some (LisR e s v n xs)) {g : Nat} (hg : v.ownBlock = some g) : w0.heap.size ≤ g := by
  obtain ⟨S, ⟨F, f1, f2, f3, f4⟩, hd⟩ := H
  have h := (f1 q _ hq).2.2 g
  exact (hd.own g ((f4 g).2 ⟨q, h.2 hg⟩)).resolve_left id
/-- Numbers that came in. -/
theorem marked_in {w0 w : World} {L : List Res} {q k cB n c : Nat} {B A : Option Addr} {its : List It} {xs : List Int} (r : Int) (H : St w0 None w L) (hq : L[q]? = some (LisR 20 1 (.slice B k cB) k (itVs its))) (hn : xs.length = n) (hn2 : n ≤ 100000) (hk : k ≤ 1000000) (hA : RdI w0 A xs) :
    Calls Tryd.prog 34 #[.slice B k cB, .int .i32 r, .slice A n c] w fun e w' => ∃ B' c', e = .returned (.slice B' (k + 2 * n) c') ∧ St w0 None w' (L.set q (LisR 20 1 (.slice B' (k + 2 * n) c') (k + 2 * n) (itVs (its ++ eachI r xs)))) := by
  by_cases hz : xs = []
  · subst hz
    obtain rfl : n = 0 := hn.symm
    have hql : q < L.length := (List.getElem?_eq_some_iff.1 hq).1
    have HH := Lib.hid H
    have HQ := Lib.hid hq
    clear H hq hA
    go_enter Tryd.func34, Tryd.ntmps34
    go_wp2
    go_loopw [0, 8, 11] (fun x0 _ x11 wr => x0 = .slice B k cB ∧ x11 = .int .i64 0 ∧ wr = w) (fun _ _ _ _ => 0)
    case atStart => exact ⟨rfl, rfl, rfl⟩
    case round =>
    obtain ⟨rfl, rfl, rfl⟩ := hrel
    go_wp2
    go_ret
    exact ⟨B, cB, rfl, by
      rw [show its ++ eachI r [] = its from List.append_nil _, show k + 2 * 0 = k by omega, set_same HQ.out]
      exact HH.out⟩
  · obtain ⟨x, hx⟩ : ∃ x, xs[0]? = some x := by
      cases xs with
      | nil => exact absurd rfl hz
      | cons y ys => exact ⟨y, rfl⟩
    obtain ⟨g, o, hAe, hg, _⟩ := hA 0 x hx
    refine marked_o r H hq hn hn2 hk (hA.on2 H.below) fun g' o' e h => ?_
    rw [hAe] at e
    injection e with e
    injection e with e1 e2
    subst e1
    have := H.lis_young hq h
    omega
/-- One number alone, just laid. -/
theorem marked_one {w0 w : World} {S0 : Nat → Prop} {L : List Res} {q k cB : Nat} {B : Option Addr} {its : List It} (r x : Int) (H : St w0 S0 w L) (hq : L[q]? = some (LisR 20 1 (.slice B k cB) k (itVs its))) (hk : k ≤ 1000000) :
    Calls Tryd.prog 34 #[.slice B k cB, .int .i32 r, .slice (some ⟨w.heap.size, 0, none⟩) 1 1] (w.alloc (.cells #[.int .i64 x] 3)) fun e w' => ∃ B' c', e = .returned (.slice B' (k + 2) c') ∧ St w0 S0 w' (L.set q (LisR 20 1 (.slice B' (k + 2) c') (k + 2) (itVs (its ++ [.m r, .n x])))) :=
  marked_o (xs := [x]) (n := 1) r (H.alloc _) hq rfl (by decide) hk (rdI_box w x) fun g o e h => by
    injection e with e
    injection e with e1 e2
    subst e1
    have := (H.lis q hq).lt h
    omega
end Go.Proofs.YtlceanlenekanaaDoor
