/- Layer 15: the document's own queue: Come. Printed by bin/genY2.py. -/
import Derived.Test.YtebcdpgalbibkaaReadyS
import Derived.Test.YtebcdpgalbibkaaReadyH
import Derived.Test.YtebcdpgalbibkaaReadyQ
import Derived.Test.YtebcdpgalbibkaaReadyV
import Derived.Test.YtebcdpgalbibkaaReadyW
import Derived.Test.YtebcdpgalbibkaaReadyX
namespace Go.Proofs.Ytebcdpgalbibkaa
open Go.RowKit
set_option linter.unusedVariables false
set_option maxRecDepth 100000
set_option maxHeartbeats 16000000
section
variable {w0 w w' : World} {S0 S : Nat → Prop} {L : List Res} {r : Nat} {s s' : QS}
theorem RCome_c {m : Nat} (h : RQR r s.all w S) (hs : s.ok m) (id q f : Int) (hP : ComeP s id q f s') :
    Calls Try.prog 11 #[.pointer (some ⟨r, 0, none⟩), .int .i64 id, .int .i64 q] w fun e w' => e = .returned (.int .i64 f) ∧ ∃ S', RQR r s'.all w' S' ∧ Did S S' w w' := by
  have hlen : s.all.length ≤ 1000 := Nat.le_trans hs.len hs.mx
  have FI := Lib.hid (find_c h hlen id)
  have MY := Lib.hid (fun b hb => rmay_c id q w b hb)
  rcases hP with ⟨hm, rfl, rfl⟩ | ⟨hm, hh, rfl, rfl⟩ | ⟨hm, hno, rfl, rfl⟩
  · obtain ⟨A, c, hr⟩ := h
    have S0' := Lib.hid (St.start hr)
    have M2 := Lib.hid (MY.out false (decide_eq_false hm).symm)
    clear hm MY FI hr hs
    go_enter Try.func11, Try.ntmps11
    go_wp2_with fail
    refine M2.out.mono ?_
    rintro e w1 ⟨rfl, rfl⟩
    go_wp2_with fail
    go_ret
    exact ⟨rfl, S0'.out.fin fun S' h => ⟨A, c, h⟩⟩
  · obtain ⟨A, c, hr⟩ := h
    have S0' := Lib.hid (St.start hr)
    have M2 := Lib.hid (MY.out true (decide_eq_true hm).symm)
    have HH := Lib.hid hh
    have HS := Lib.hid hs
    clear hm MY hr hs hh
    go_enter Try.func11, Try.ntmps11
    go_wp2_with fail
    refine M2.out.mono ?_
    rintro e w1 ⟨rfl, rfl⟩
    go_wp2_with fail
    refine FI.out.mono ?_
    rintro e w1 ⟨⟨z, rfl, hz⟩, rfl⟩
    rcases find_go HS.out hz with ⟨rfl, hno, -⟩ | ⟨i, j, p, rfl, rfl, hj, hp, hx⟩
    · exact absurd HH.out hno
    have z1 : decide ((0 : Int) ≤ (i : Int)) = true := decide_eq_true (by omega)
    clear hz hx hp FI M2 HH
    go_wp2_with fail
    go_ret
    exact ⟨rfl, S0'.out.fin fun S' h => ⟨A, c, h⟩⟩
  · obtain ⟨j, rfl⟩ : ∃ j : Nat, (j : Int) = id := ⟨id.toNat, by have := hm.1; omega⟩
    obtain ⟨p, rfl⟩ : ∃ p : Nat, (p : Int) = q := ⟨q.toNat, by have := hm.2; omega⟩
    simp only [Int.toNat_natCast] at hno ⊢
    obtain ⟨i, hin, heq, hle, hgt⟩ := come_split s j p (by have := hm.2; omega) hs
    obtain ⟨A, c, hr⟩ := h
    by_cases hca : c = i
    · exact come_pos hr hs j p i hm hno hin heq hle hgt hca
    · by_cases ke : i < s.all.length
      · obtain ⟨⟨x1, x2⟩, hx⟩ : ∃ x, s.all[i]? = some x := by
          generalize s.all = l at ke
          exact ⟨_, List.getElem?_eq_getElem ke⟩
        have hxp : p < x2 := hgt _ hx
        exact come_mid hr hs j p i hm hno hin heq hle hgt hca x1 x2 hx hxp
      · exact come_end hr hs j p i hm hno hin heq hle hgt hca ke
end
end Go.Proofs.Ytebcdpgalbibkaa
