/- Layer 25: how the last outcome came out. -/
import Derived.Test.YtlceanlenekanaaDoorTraL
namespace Go.Proofs.YtlceanlenekanaaDoor
open Go.RowKit
set_option linter.unusedVariables false
set_option maxRecDepth 100000
set_option maxHeartbeats 4000000
/-- The cells of outcomes. -/
def fCs (fs : List (Int × Int × Int)) : List Value := fs.flatMap fun f => [.int .i64 f.1, .int .i64 f.2.1, .int .i64 f.2.2]
theorem fCs_app (a b : List (Int × Int × Int)) : fCs (a ++ b) = fCs a ++ fCs b := by unfold fCs; rw [List.flatMap_append]
theorem fCs_one (f : Int × Int × Int) : fCs [f] = [.int .i64 f.1, .int .i64 f.2.1, .int .i64 f.2.2] := by unfold fCs; simp
theorem fCs_len : ∀ fs : List (Int × Int × Int), (fCs fs).length = fs.length * 3
  | [] => rfl
  | f :: fs => by
    have := fCs_len fs
    unfold fCs at this ⊢
    rw [List.flatMap_cons, List.length_append, this]
    show 3 + _ = (fs.length + 1) * 3
    omega
theorem fCs_set (fs : List (Int × Int × Int)) (f : Int × Int × Int) (k y : Int) : ((fCs (fs ++ [f])).set (fs.length * 3 + 1) (.int .i64 k)).set (fs.length * 3 + 2) (.int .i64 y) = fCs (fs ++ [(f.1, k, y)]) := by
  rw [fCs_app, fCs_app, fCs_one, fCs_one, List.set_append_right _ _ (by rw [fCs_len]; omega), fCs_len, List.set_append_right _ _ (by rw [fCs_len]; omega), fCs_len]
  rw [show fs.length * 3 + 1 - fs.length * 3 = 1 by omega, show fs.length * 3 + 2 - fs.length * 3 = 2 by omega]
  rfl
theorem putKind_o {w0 w : World} {S0 : Nat → Prop} {L : List Res} {q n c : Nat} {A : Option Addr} {fs : List (Int × Int × Int)} (k y : Int) (H : St w0 S0 w L) (hq : L[q]? = some (LisR 36 3 (.slice A n c) n (fCs fs))) (hn : fs.length = n) (hn2 : n ≤ 1000000) :
    Calls Tryd.prog 43 #[.slice A n c, .int .i64 k, .int .i64 y] w fun e w' => (setL fs k y = none ∧ e = .returned (.bool false) ∧ w' = w) ∨ ∃ fs', setL fs k y = some fs' ∧ fs'.length = n ∧ e = .returned (.bool true) ∧ St w0 S0 w' (L.set q (LisR 36 3 (.slice A n c) n (fCs fs'))) := by
  rcases List.eq_nil_or_concat fs with rfl | ⟨f0, f, rfl⟩
  · obtain rfl : n = 0 := hn.symm
    clear H hq
    go_enter Tryd.func43, Tryd.ntmps43
    go_wp2
    go_ret
    exact Or.inl ⟨rfl, rfl, rfl⟩
  · rw [List.concat_eq_append] at hn hq ⊢
    obtain ⟨m, rfl⟩ : ∃ m, n = m + 1 := ⟨f0.length, by rw [← hn, List.length_append]; rfl⟩
    have hm : f0.length = m := by rw [List.length_append] at hn; have : f0.length + 1 = m + 1 := hn; omega
    have hql : q < L.length := (List.getElem?_eq_some_iff.1 hq).1
    have hl := H.lis q hq
    obtain ⟨A', cap, e, h1, h2, hlen, hz⟩ := H.lis_cells q hq
    injection e with e1 e2 e3
    subst e1; subst e3
    rcases hz with hz | ⟨g, o, rfl, hcs⟩
    · cases hz
    have c1 := hcs (m * 3 + 1) (.int .i64 f.2.1) (by rw [fCs_app, List.getElem?_append_right (by rw [fCs_len, hm]; omega), fCs_len, hm, show m * 3 + 1 - m * 3 = 1 by omega]; rfl)
    have c2 := hcs (m * 3 + 2) (.int .i64 f.2.2) (by rw [fCs_app, List.getElem?_append_right (by rw [fCs_len, hm]; omega), fCs_len, hm, show m * 3 + 2 - m * 3 = 2 by omega]; rfl)
    rw [← Nat.add_assoc] at c1 c2
    have fr := hl.frozen
    have s1 := H.lis_set q hq (k := m * 3 + 1) (by omega) (.int .i64 k)
    have s2 := s1.lis_set q (List.getElem?_set_self hql) (k := m * 3 + 2) (by omega) (.int .i64 y)
    rw [List.set_set] at s2
    have e5 := fCs_set f0 f k y
    rw [hm] at e5
    rw [e5, ← Nat.add_assoc, ← Nat.add_assoc] at s2
    have S2 := Lib.hid s2
    have hsl := setL_last f0 f k y
    rw [hsl]
    have HL := Lib.hid (show (f0 ++ [(f.1, k, y)]).length = m + 1 by rw [List.length_append, hm]; rfl)
    have g1 := fr (o + m * 3 + 1)
    have g2 := fr (o + m * 3 + 2)
    clear H hq hl hcs s1 s2 e5 hsl fr hlen
    go_enter Tryd.func43, Tryd.ntmps43
    go_wp2
    go_ret
    exact ⟨rfl, S2.out⟩
end Go.Proofs.YtlceanlenekanaaDoor
