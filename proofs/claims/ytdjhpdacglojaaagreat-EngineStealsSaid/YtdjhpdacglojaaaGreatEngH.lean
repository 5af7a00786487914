/- Layer 24: what slots do, of one request. -/
import Derived.Test.YtdjhpdacglojaaaGreatEngG
namespace Go.Proofs.YtdjhpdacglojaaaGreat
open Go.RowKit
set_option linter.unusedVariables false
set_option maxRecDepth 100000
set_option maxHeartbeats 1600000
theorem slotR_det {C : bs.BC} {s : bs.BS} {now v f v2 f2 : Int} {ok : Bool} {want : Nat → Bool} {s' s2 : bs.BS} (h : bs.SlotR C s now ok want v f s') (h2 : bs.SlotR C s now ok want v2 f2 s2) : v = v2 ∧ f = f2 ∧ s' = s2 := by
  rcases h with ⟨a1, rfl, rfl, rfl⟩ | ⟨a1, a2, rfl, rfl, rfl⟩ | ⟨a1, a2, a3, a4, rfl, rfl, rfl⟩ | ⟨a1, a2, a3, b, hb, a4, rfl, rfl, rfl⟩ <;>
  rcases h2 with ⟨c1, rfl, rfl, rfl⟩ | ⟨c1, c2, rfl, rfl, rfl⟩ | ⟨c1, c2, c3, c4, rfl, rfl, rfl⟩ | ⟨c1, c2, c3, b2, hb2, c4, rfl, rfl, rfl⟩ <;>
  first
    | exact ⟨rfl, rfl, rfl⟩
    | exact absurd (And.intro c2 c3) a2
    | exact absurd (And.intro a2 a3) c2
    | exact absurd (And.intro ‹ok = true› ‹_ ≤ now›) ‹¬ (ok = true ∧ _)›
    | omega
    | (obtain rfl : b = b2 := by omega
       exact ⟨rfl, rfl, rfl⟩)
section
variable {n sz : Nat} {G : Int} {st0 : Nat → po.Buf} {r : Rq} {c t0 x now : Int} {D D2 : Dv} {bad : Bool} {stt : Int} {un : List Ft} {C : bs.BC} {l : List Int} {m m2 : Mv} {s s' s1 : bs.BS} {v f : Int} {i : Nat}
/-- A slot that is had, with one descriptor that waits. -/
theorem OneF.slot1 (O : OneF n sz G st0 r c t0 D 1 0 0 false false bad stt un) (hi : i < n) (hs : r.slot = (i : Int)) (hl : 2 ≤ r.len)
    (hS : bs.SlotR C s now (bs.okB (l ++ [0]).length (fE (l ++ [0])) C.n) (bs.wantB (l ++ [0]).length (fE (l ++ [0]))) 0 0 s1)
    (h : SlE n sz G C 0 x now l D idleV s v f D2 m2 s') (hI2 : DvI n sz G D2) :
    v = 0 ∧ f = 0 ∧ s' = s1 ∧ m2 = ⟨0, 1, r.len⟩ ∧ OneF n sz G (wrS st0 i r.frm.toNat [x]) r c t0 D2 1 1 0 false false bad stt un := by
  obtain ⟨D1, m1, h1, hI1, hm1, hR, h2⟩ := h
  have hm0 : ¬ 0 ≤ idleV.no := by decide
  rcases h1 with ⟨-, h1⟩ | ⟨e, -⟩
  · rcases h1 with ⟨e, -⟩ | ⟨-, hm, k, st', k1, k2, k3, k4, rfl⟩
    · rw [O.htaken, O.hput] at e; omega
    have O1 := O.take k1 k3 hI1 k4
    have hd := O.is0.1.len
    rw [O.htaken] at hm
    rw [O.same.len] at hd
    rw [hd] at hm
    subst hm
    rw [show wantsE l ⟨((0 : Nat) : Int), 0, r.len⟩ 0 = l ++ [0] from if_pos (by show (0 : Int) ≤ ((0 : Nat) : Int); omega)] at hR
    obtain ⟨rfl, rfl, rfl⟩ := slotR_det hR hS
    rcases h2 with ⟨e, -⟩ | ⟨-, cw, st2, hP, h3⟩
    · exact absurd ⟨rfl, rfl, by show (0 : Int) ≤ ((0 : Nat) : Int); omega⟩ e
    have hP : WrP n _ 0 0 [x] cw st2 := hP
    obtain ⟨rfl, O2⟩ := (O1.write hi hs hP (hI1.wr hP).1).1 ⟨by omega, by omega, by simp; omega⟩
    rcases h3 with ⟨e, -⟩ | ⟨-, e, rfl, rfl⟩ | ⟨-, e, -⟩
    · exact absurd rfl e
    · refine ⟨rfl, rfl, rfl, rfl, ?_⟩
      rw [Int.add_zero] at O2
      exact O2
    · exact absurd (show (0 : Int) + 1 < r.len by omega) e
  · exact absurd e hm0
/-- The last one, of its piece. -/
theorem OneF.slot2 {a : Int} (O : OneF n sz G st0 r c t0 D 1 1 0 false false bad stt un) (hi : i < n) (hs : r.slot = (i : Int)) (ha : 0 ≤ a) (hl : a + 1 = r.len)
    (hS : bs.SlotR C s now (bs.okB (l ++ [0]).length (fE (l ++ [0])) C.n) (bs.wantB (l ++ [0]).length (fE (l ++ [0]))) 0 0 s1)
    (h : SlE n sz G C 0 x now l D ⟨0, a, r.len⟩ s v f D2 m2 s') (hI2 : DvI n sz G D2) :
    v = 0 ∧ f = 0 ∧ s' = s1 ∧ m2 = idleV ∧ OneF n sz G (wrS st0 i (r.frm + a).toNat [x]) r c t0 D2 1 1 0 true false false 0 un := by
  obtain ⟨D1, m1, h1, hI1, hm1, hR, h2⟩ := h
  rcases h1 with ⟨e, -⟩ | ⟨-, rfl, rfl⟩
  · exact absurd (show (0 : Int) < 0 from e) (by omega)
  rw [show wantsE l ⟨0, a, r.len⟩ 0 = l ++ [0] from if_pos (by show (0 : Int) ≤ 0; omega)] at hR
  obtain ⟨rfl, rfl, rfl⟩ := slotR_det hR hS
  rcases h2 with ⟨e, -⟩ | ⟨-, cw, st2, hP, h3⟩
  · exact absurd ⟨rfl, rfl, by show (0 : Int) ≤ 0; omega⟩ e
  have hP : WrP n _ 0 a [x] cw st2 := hP
  obtain ⟨rfl, O2⟩ := (O.write hi hs hP (hI1.wr hP).1).1 ⟨by omega, by omega, by simp; omega⟩
  rcases h3 with ⟨e, -⟩ | ⟨-, e, -⟩ | ⟨-, -, ⟨f', g', k, hF, hk, rfl⟩, rfl⟩
  · exact absurd rfl e
  · exact absurd (show a + 1 < r.len from e) (by omega)
  · obtain ⟨rfl, O3⟩ := O2.fin false ⟨by omega, by omega⟩ hF hk hI2
    exact ⟨rfl, rfl, rfl, rfl, O3⟩
/-- None waits. -/
theorem eslot_none (ht : D.g.taken = D.g.put) (hS : bs.SlotR C s now (bs.okB l.length (fE l) C.n) (bs.wantB l.length (fE l)) 0 5 s1)
    (h : SlE n sz G C 0 x now l D idleV s v f D2 m2 s') : v = 0 ∧ f = 5 ∧ s' = s1 ∧ m2 = idleV ∧ D2 = D := by
  obtain ⟨D1, m1, h1, hI1, hm1, hR, h2⟩ := h
  have hm0 : ¬ 0 ≤ idleV.no := by decide
  rcases h1 with ⟨-, h1⟩ | ⟨e, -⟩
  · rcases h1 with ⟨-, rfl, rfl⟩ | ⟨e, -⟩
    · rw [show wantsE l idleV 0 = l from if_neg hm0] at hR
      obtain ⟨rfl, rfl, rfl⟩ := slotR_det hR hS
      rcases h2 with ⟨-, rfl, rfl⟩ | ⟨⟨e, -⟩, -⟩
      · exact ⟨rfl, rfl, rfl, rfl, rfl⟩
      · omega
    · omega
  · exact absurd e hm0
end
end Go.Proofs.YtdjhpdacglojaaaGreat
