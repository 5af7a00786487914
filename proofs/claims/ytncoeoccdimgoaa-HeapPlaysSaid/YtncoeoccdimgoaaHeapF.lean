/- Layer 3: walking to one's place. -/
import Derived.Test.YtncoeoccdimgoaaHeapE
namespace Go.Proofs.Ytncoeoccdimgoaa
open Go.RowKit
set_option linter.unusedVariables false
set_option maxRecDepth 100000
set_option maxHeartbeats 1000000
/-- The same members. -/
def Keep (a a' : Nat → Mem) (k : Nat) : Prop := ∀ M, Of a k M → Of a' k M
theorem Keep.refl (a : Nat → Mem) (k : Nat) : Keep a a k := fun _ h => h
theorem Keep.sw {a a' : Nat → Mem} {k i j : Nat} (h : Keep a a' k) (hi : i < k) (hj : j < k) : Keep a (sw a' i j) k := fun M hM => (h M hM).sw hi hj
section
variable {w0 w : World} {S S0 : Nat → Prop} {N L : List Res} {h b off c pb n k : Nat} {a : Nat → Mem} {pl : Nat → Int}
theorem ahead_o (H : St w0 S0 w L) (q : Nat) (hq : L[q]? = some (HSR h b off c pb n k a)) {i : Nat} (hi : i < k) (hk : k ≤ n) (hn : n ≤ 1000) {f : Nat} (hf : AheadP a i f) :
    Calls Try.prog 28 #[.pointer (some ⟨h, 0, none⟩), .int .i64 (i : Nat)] w fun e w' => e = .returned (.int .i64 (f : Nat)) ∧ St w0 S0 w' (L.set q (HSR h b off c pb n k (sw a i f))) :=
  St.call (fun w S s => ahead_c s hi hk hn hf) (HSR.ok _ _ _ _ _ _ _ _) H q hq
theorem behind_o (H : St w0 S0 w L) (q : Nat) (hq : L[q]? = some (HSR h b off c pb n k a)) {i : Nat} (hi : i < k) (hk : k ≤ n) (hn : n ≤ 1000) :
    Calls Try.prog 29 #[.pointer (some ⟨h, 0, none⟩), .int .i64 (i : Nat)] w fun e w' => ∃ f, (e = .returned (.int .i64 (f : Nat)) ∧ BehindP a k i f) ∧ St w0 S0 w' (L.set q (HSR h b off c pb n k (sw a i f))) := by
  obtain ⟨S, hs, hd⟩ := H
  have hl := (Star.ok L).lt hs
  obtain ⟨T, hT, hok, hTS, hput⟩ := hs.split hq
  refine (behind_c hT hi hk hn).mono ?_
  rintro e w' ⟨f, hP, T', hT', hdid⟩
  have H' : St w0 S0 w L := ⟨S, hs, hd⟩
  refine ⟨f, hP, _, hput w' _ T' (HSR.ok _ _ _ _ _ _ _ _) hT' (fun b hb hn => hdid.block b (hl b hb) hn) (fun b hb => (hdid.own b hb).imp id fun h => fun h2 => by have := hl b h2; omega), ?_⟩
  exact ⟨hdid.os.trans hd.os, hdid.tape.trans hd.tape, hdid.output.trans hd.output, Nat.le_trans hd.size hdid.size,
    fun k hk hn => (hdid.block k (Nat.lt_of_lt_of_le hk hd.size) fun hkT => by rcases hd.own k (hTS k hkT) with h | h; exact hn h; omega).trans (hd.block k hk hn),
    fun b hb => by
      rcases hb with ⟨h1, _⟩ | h1
      · exact hd.own b h1
      · rcases hdid.own b h1 with h2 | h2
        · exact hd.own b (hTS b h2)
        · exact Or.inr (Nat.le_trans hd.size h2)⟩
theorem walk_up (s : HSR h b off c pb n k a w S) {i : Nat} (hi : i < k) (hk : k ≤ n) (hn : n ≤ 1000) (hu : Up a k i) :
    Calls Try.prog 27 #[.int .i64 (i : Nat), .func (Fn.func 28) #[.pointer (some ⟨h, 0, none⟩)] #[]] w fun e w' => ∃ (q : Nat) (a' : Nat → Mem), (e = .returned (.int .i64 (q : Nat)) ∧ q < k ∧ Dn a' k q ∧ Keep a a' k) ∧ ∃ S', HSR h b off c pb n k a' w' S' ∧ Did S S' w w' := by
  have s0 : St w S w [HSR h b off c pb n k a] := St.start (Star.one (HSR.ok h b off c pb n k a) s)
  have S0' := Lib.hid s0
  clear s s0
  go_enter Try.func27, Try.ntmps27
  go_wp2_with fail
  go_loopw [0] (fun t wr => ∃ (q : Nat) (a' : Nat → Mem), t = .int .i64 (q : Int) ∧ q < k ∧ Up a' k q ∧ Keep a a' k ∧ St w S wr [HSR h b off c pb n k a']) (fun t _ => (intOf t).toNat)
  case atStart => exact ⟨i, a, rfl, hi, hu, Keep.refl a k, S0'.out⟩
  case round =>
  clear hu hi S0'
  obtain ⟨q, a', rfl, hqk, hu, hkp, sr⟩ := hrel
  by_cases hst : q = 0 ∨ ¬ hlt (a' q) (a' (par q))
  · have AC := Lib.hid (ahead_o sr 0 rfl hqk hk hn (f := q) (Or.inl ⟨rfl, hst⟩))
    rw [sw_same] at AC
    have HD := Lib.hid (hu.stop hst)
    have HK := Lib.hid hkp
    have z : ((q : Int) == (q : Int)) = true := beq_self_eq_true _
    clear hst sr hu hkp
    go_wp2_with fail
    refine AC.out.mono ?_
    rintro e w1 ⟨rfl, s1⟩
    have S1 := Lib.hid s1
    clear s1 AC
    go_wp2_with fail
    go_ret
    exact ⟨q, a', ⟨rfl, hqk, HD.out, HK.out⟩, S1.out.fin fun S' h => star_one h⟩
  · have h0 : 0 < q := by omega
    have hl : hlt (a' q) (a' (par q)) := by
      by_cases h : hlt (a' q) (a' (par q))
      · exact h
      · exact absurd (Or.inr h) hst
    have hp := par_lt h0
    have AC := Lib.hid (ahead_o sr 0 rfl hqk hk hn (f := par q) (Or.inr ⟨h0, rfl, hl⟩))
    have HD := Lib.hid (hu.step h0 hqk hl)
    have HK := Lib.hid (hkp.sw hqk (show par q < k by omega))
    have z : (((par q : Nat) : Int) == (q : Int)) = false := beq_eq_false_iff_ne.2 (by omega)
    clear hst sr hu hkp hl
    generalize par q = p at *
    go_wp2_with fail
    refine AC.out.mono ?_
    rintro e w1 ⟨rfl, s1⟩
    have S1 := Lib.hid s1
    clear s1 AC
    go_wp2_with fail
    go_roundw
    case rel => exact ⟨p, _, rfl, by omega, HD.out, HK.out, S1.out⟩
    case measure => simp [intOf]; omega
theorem walk_down (s : HSR h b off c pb n k a w S) {i : Nat} (hi : i < k) (hk : k ≤ n) (hn : n ≤ 1000) (hu : Dn a k i) :
    Calls Try.prog 27 #[.int .i64 (i : Nat), .func (Fn.func 29) #[.pointer (some ⟨h, 0, none⟩)] #[]] w fun e w' => ∃ (q : Nat) (a' : Nat → Mem), (e = .returned (.int .i64 (q : Nat)) ∧ Hp a' k ∧ Keep a a' k) ∧ ∃ S', HSR h b off c pb n k a' w' S' ∧ Did S S' w w' := by
  have s0 : St w S w [HSR h b off c pb n k a] := St.start (Star.one (HSR.ok h b off c pb n k a) s)
  have S0' := Lib.hid s0
  clear s s0
  go_enter Try.func27, Try.ntmps27
  go_wp2_with fail
  go_loopw [0] (fun t wr => ∃ (q : Nat) (a' : Nat → Mem), t = .int .i64 (q : Int) ∧ q < k ∧ Dn a' k q ∧ Keep a a' k ∧ St w S wr [HSR h b off c pb n k a']) (fun t _ => k - (intOf t).toNat)
  case atStart => exact ⟨i, a, rfl, hi, hu, Keep.refl a k, S0'.out⟩
  case round =>
  clear hu hi S0'
  obtain ⟨q, a', rfl, hqk, hu, hkp, sr⟩ := hrel
  have AC := Lib.hid (behind_o sr 0 rfl hqk hk hn)
  have HU := Lib.hid hu
  have HK := Lib.hid hkp
  clear sr hu hkp
  go_wp2_with fail
  refine AC.out.mono ?_
  rintro e w1 ⟨f, ⟨rfl, hb⟩, s1⟩
  clear AC
  rcases hb with ⟨rfl, hb⟩ | ⟨f0, fk, fp, fl, fm⟩
  · rw [sw_same] at s1
    have S1 := Lib.hid s1
    have HD := Lib.hid (HU.out.stop hb)
    have z : ((f : Int) == (f : Int)) = true := beq_self_eq_true _
    clear s1 HU hb
    go_wp2_with fail
    go_ret
    exact ⟨f, a', ⟨rfl, HD.out, HK.out⟩, S1.out.fin fun S' h => star_one h⟩
  · have S1 := Lib.hid s1
    have HD := Lib.hid (HU.out.step f0 fk fp fl fm)
    have HK2 := Lib.hid (HK.out.sw hqk fk)
    have hp := par_lt f0
    have hqf : q < f := by omega
    have z : ((f : Int) == (q : Int)) = false := beq_eq_false_iff_ne.2 (by omega)
    clear s1 HU HK fl fm fp hp
    go_wp2_with fail
    go_roundw
    case rel => exact ⟨f, _, rfl, fk, HD.out, HK2.out, S1.out⟩
    case measure => simp [intOf]; omega
end
end Go.Proofs.Ytncoeoccdimgoaa
