/- Layer 3: two heaps, and one with the members of both. Plain theorems. -/
import Derived.Test.YtncoeoccdimgoaaHeapB
namespace Go.Proofs.Ytncoeoccdimgoaa
open Go.RowKit
set_option linter.unusedVariables false
structure Both (Ma Mb Mc : HM) : Prop where
  eq : ∀ j y, Mc j = some y ↔ Ma j = some y ∨ Mb j = some y
  dis : ∀ j y z, Ma j = some y → Mb j = some z → False
theorem Both.begin : Both (fun _ => none) (fun _ => none) (fun _ => none) := ⟨fun j y => by simp, fun j y z h => by cases h⟩
theorem Both.left {Ma Mb Mc : HM} (h : Both Ma Mb Mc) {i : Nat} (x : Int) (hn : Mc i = none) : Both (Ma.put i x) Mb (Mc.put i x) := by
  refine ⟨fun j y => ?_, fun j y z h1 h2 => ?_⟩
  · rw [HM.put_some, HM.put_some, h.eq]
    constructor
    · rintro (h1 | ⟨h1, h2 | h2⟩)
      · exact Or.inl (Or.inl h1)
      · exact Or.inl (Or.inr ⟨h1, h2⟩)
      · exact Or.inr h2
    · rintro ((h1 | ⟨h1, h2⟩) | h2)
      · exact Or.inl h1
      · exact Or.inr ⟨h1, Or.inl h2⟩
      · refine Or.inr ⟨fun e => ?_, Or.inr h2⟩
        have := (h.eq j y).2 (Or.inr h2)
        rw [e, hn] at this; cases this
  · rcases HM.put_some.1 h1 with ⟨h3, _⟩ | ⟨_, h3⟩
    · have := (h.eq j z).2 (Or.inr h2)
      rw [h3, hn] at this; cases this
    · exact h.dis j y z h3 h2
theorem Both.comm {Ma Mb Mc : HM} (h : Both Ma Mb Mc) : Both Mb Ma Mc := ⟨fun j y => by rw [h.eq, or_comm], fun j y z h1 h2 => h.dis j z y h2 h1⟩
theorem Both.right {Ma Mb Mc : HM} (h : Both Ma Mb Mc) {i : Nat} (x : Int) (hn : Mc i = none) : Both Ma (Mb.put i x) (Mc.put i x) := (h.comm.left x hn).comm
theorem Both.dell {Ma Mb Mc : HM} (h : Both Ma Mb Mc) {i : Nat} {x : Int} (hi : Ma i = some x) : Both (Ma.del i) Mb (Mc.del i) := by
  refine ⟨fun j y => ?_, fun j y z h1 h2 => h.dis j y z (HM.del_some.1 h1).2 h2⟩
  rw [HM.del_some, HM.del_some, h.eq]
  constructor
  · rintro ⟨h1, h2 | h2⟩
    · exact Or.inl ⟨h1, h2⟩
    · exact Or.inr h2
  · rintro (⟨h1, h2⟩ | h2)
    · exact ⟨h1, Or.inl h2⟩
    · exact ⟨fun e => h.dis i x y hi (e ▸ h2), Or.inr h2⟩
theorem Both.delr {Ma Mb Mc : HM} (h : Both Ma Mb Mc) {i : Nat} {x : Int} (hi : Mb i = some x) : Both Ma (Mb.del i) (Mc.del i) := (h.comm.dell hi).comm
theorem take_of {M : HM} {i : Nat} {x : Int} (h : FstP M (i : Int) x 0) : HTakeP M (i : Int) x 0 (M.del i) := ⟨h, Or.inr ⟨rfl, by rw [Int.toNat_natCast]⟩⟩
/-- The first of both is that of one, ahead of that of the other one. -/
theorem Both.side {Ma Mb Mc : HM} (h : Both Ma Mb Mc) {i : Nat} {x : Int} (hc : FstP Mc (i : Int) x 0) (hi : Ma i = some x) {b y g : Int} (hb : FstP Mb b y g) :
    FstP Ma (i : Int) x 0 ∧ (g = 5 ∨ (g = 0 ∧ ∃ b' : Nat, b = (b' : Int) ∧ hlt (i, x) (b', y))) := by
  rcases hc with ⟨_, _, _, hc⟩ | ⟨i', h1, h2, h3, _⟩
  · omega
  · obtain rfl : i = i' := by omega
    refine ⟨Or.inr ⟨i, hi, fun j z hj => h2 j z ((h.eq j z).2 (Or.inl hj)), rfl, rfl⟩, ?_⟩
    rcases hb with ⟨_, _, _, hb⟩ | ⟨b', k1, k2, k3, k4⟩
    · exact Or.inl hb
    · refine Or.inr ⟨k4, b', k3, ?_⟩
      have h5 := h2 b' y ((h.eq b' y).2 (Or.inr k1))
      by_cases e : hlt (i, x) (b', y)
      · exact e
      · have := hlt_eq e h5
        injection this with e1 e2
        subst e1; exact (h.dis i x y hi k1).elim
end Go.Proofs.Ytncoeoccdimgoaa
