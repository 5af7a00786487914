/- Layer 17: a processor: who runs; whose time is missed; a job runs a tick. -/
import Derived.Test.YtdnonhhphkmlmaaCpuG
namespace Go.Proofs.Ytdnonhhphkmlmaa
open Go.RowKit
set_option linter.unusedVariables false
set_option maxRecDepth 100000
set_option maxHeartbeats 2000000
/-- Who runs. -/
def WhoP (m : Nat) (V : Nat → Sv) (now : Int) (s : QS) (a : Int) (V' : Nat → Sv) : Prop :=
  (∃ k, k < m ∧ canS (V k) now ∧ (∀ j, j < k → ¬ canS (V j) now) ∧ a = 100 + (k : Int) ∧ V' = seenV V now (k + 1)) ∨
  ((∀ j, j < m → ¬ canS (V j) now) ∧ V' = seenV V now m ∧ ((∃ x t, s.all = x :: t ∧ a = (x.1 : Int)) ∨ (s.all = [] ∧ a = -1)))
def WhoQ (w0 : World) (S0 : Nat → Prop) (X : List Res) (p : Pl) (T : Nat → CTk) (V : Nat → Sv) (now : Int) (s : QS) (e : Ending) (w' : World) : Prop := ∃ a V', e = .returned (.int .i64 a) ∧ WhoP p.m V now s a V' ∧ St w0 S0 w' (CpuL p T V' now s ++ X)
section
variable {w0 w : World} {S0 : Nat → Prop} {X : List Res} {p : Pl} {T T' : Nat → CTk} {V V' : Nat → Sv} {now id dem : Int} {s s' : QS}
theorem cWho_c (H : St w0 S0 w (CpuL p T V now s ++ X)) (hv : ∀ j, j < p.m → SvOK now (V j)) (hm : p.m ≤ 100) (n0 : 0 ≤ now) (n1 : now < 4611686018427387904) {q : Nat} (hs : s.ok q) :
    Calls Try.prog 31 #[.pointer (some ⟨p.c, 0, none⟩)] w (WhoQ w0 S0 X p T V now s) := by
  have s2 := H.box 103 #[.func (Fn.func 45) #[.pointer (some ⟨p.c, 0, none⟩)] #[], .func (Fn.func 46) #[.pointer (some ⟨p.c, 0, none⟩)] #[]]
  rw [List.append_assoc] at s2
  obtain ⟨h, hh⟩ : ∃ h, w.heap.size = h := ⟨_, rfl⟩
  rw [hh] at s2
  have S2 := Lib.hid s2
  have BX := Lib.hid (fun (W : World) (V2 : Nat → Sv) (K : St w0 S0 W (CpuL p T V2 now s ++ (X ++ [BlkR h 103 #[.func (Fn.func 45) #[.pointer (some ⟨p.c, 0, none⟩)] #[], .func (Fn.func 46) #[.pointer (some ⟨p.c, 0, none⟩)] #[]]]))) => show (W.cell? ⟨h, 0, none⟩ = some (.func (Fn.func 45) #[.pointer (some ⟨p.c, 0, none⟩)] #[]) ∧ W.cell? ⟨h, 1, none⟩ = some (.func (Fn.func 46) #[.pointer (some ⟨p.c, 0, none⟩)] #[])) ∧ St w0 S0 W (CpuL p T V2 now s ++ X) from by
    have hi : (CpuL p T V2 now s ++ (X ++ [BlkR h 103 #[.func (Fn.func 45) #[.pointer (some ⟨p.c, 0, none⟩)] #[], .func (Fn.func 46) #[.pointer (some ⟨p.c, 0, none⟩)] #[]]]))[(CpuL p T V2 now s).length + X.length]? = some (BlkR h 103 #[.func (Fn.func 45) #[.pointer (some ⟨p.c, 0, none⟩)] #[], .func (Fn.func 46) #[.pointer (some ⟨p.c, 0, none⟩)] #[]]) := by
      rw [List.getElem?_append_right (by omega), List.getElem?_append_right (by omega)]; simp
    refine ⟨(K.blk _ hi).two, ?_⟩
    rw [← List.append_assoc] at K
    have := K.take (CpuL p T V2 now s ++ X).length
    rwa [List.take_left] at this)
  have HV := Lib.hid hv
  have HS := Lib.hid hs
  clear H hv hs s2
  go_enter Try.func31, Try.ntmps31
  go_wp2_with fail
  go_loopw [13, 4, 5, 6] (fun x13 x4 x5 x6 wr => (x13 = .int .i64 0 ∧ St w0 S0 wr (CpuL p T V now s ++ (X ++ [BlkR h 103 #[.func (Fn.func 45) #[.pointer (some ⟨p.c, 0, none⟩)] #[], .func (Fn.func 46) #[.pointer (some ⟨p.c, 0, none⟩)] #[]]]))) ∨ (x13 = .int .i64 1 ∧ (∀ j, j < p.m → ¬ canS (V j) now) ∧ St w0 S0 wr (CpuL p T (seenV V now p.m) now s ++ (X ++ [BlkR h 103 #[.func (Fn.func 45) #[.pointer (some ⟨p.c, 0, none⟩)] #[], .func (Fn.func 46) #[.pointer (some ⟨p.c, 0, none⟩)] #[]]]))) ∨ (x13 = .int .i64 2 ∧ (∀ j, j < p.m → ¬ canS (V j) now) ∧ s.all = [] ∧ St w0 S0 wr (CpuL p T (seenV V now p.m) now s ++ (X ++ [BlkR h 103 #[.func (Fn.func 45) #[.pointer (some ⟨p.c, 0, none⟩)] #[], .func (Fn.func 46) #[.pointer (some ⟨p.c, 0, none⟩)] #[]]])))) (fun x _ _ _ _ => 2 - (intOf x).toNat)
  case atStart => exact Or.inl ⟨rfl, S2.out⟩
  case round =>
  clear S2 hh
  rcases hrel with ⟨rfl, sr⟩ | ⟨rfl, hno, sr⟩ | ⟨rfl, hno, hall, sr⟩
  · obtain ⟨⟨k0, k1⟩, -⟩ := BX.out _ _ sr
    have FS := Lib.hid (cFirstServer_c sr HV.out hm n0 n1)
    clear sr
    go_wp2_with fail
    refine FS.out.mono ?_
    rintro e w2 ⟨a, b, V', rfl, hF, s2⟩
    clear FS k0 k1
    rcases hF with ⟨k, hk, hc, hn, rfl, rfl, rfl⟩ | ⟨hn, rfl, rfl, rfl⟩
    · have SR := Lib.hid (BX.out _ _ s2).2
      have HW := Lib.hid (show WhoP p.m V now s (100 + (k : Int)) (seenV V now (k + 1)) from Or.inl ⟨k, hk, hc, hn, rfl, rfl⟩)
      clear s2 hc hn BX
      go_wp2_with fail
      go_ret
      exact ⟨_, _, rfl, HW.out, SR.out⟩
    · have SR := Lib.hid s2
      have HN := Lib.hid hn
      clear s2 hn
      go_wp2_with fail
      go_roundw
      case rel => exact Or.inr (Or.inl ⟨rfl, HN.out, SR.out⟩)
      case measure => simp [intOf]
  · obtain ⟨⟨k0, k1⟩, -⟩ := BX.out _ _ sr
    obtain ⟨a, pr, f, hP⟩ := firstP_ex s
    have FT := Lib.hid (cFirstTask_c sr HS.out hP)
    have HN := Lib.hid hno
    clear sr hno
    go_wp2_with fail
    refine FT.out.mono ?_
    rintro e w2 ⟨rfl, s2⟩
    clear FT k0 k1
    rcases hP with ⟨ha, rfl, rfl, rfl⟩ | ⟨x, t, ha, rfl, rfl, rfl⟩
    · have SR := Lib.hid s2
      have HA := Lib.hid ha
      clear s2 ha
      go_wp2_with fail
      go_roundw
      case rel => exact Or.inr (Or.inr ⟨rfl, HN.out, HA.out, SR.out⟩)
      case measure => simp [intOf]
    · have SR := Lib.hid (BX.out _ _ s2).2
      have HW := Lib.hid (show WhoP p.m V now s (x.1 : Int) (seenV V now p.m) from Or.inr ⟨HN.out, rfl, Or.inl ⟨x, t, ha, rfl⟩⟩)
      clear s2 ha BX HN
      go_wp2_with fail
      go_ret
      exact ⟨_, _, rfl, HW.out, SR.out⟩
  · have SR := Lib.hid (BX.out _ _ sr).2
    have HW := Lib.hid (show WhoP p.m V now s (-1) (seenV V now p.m) from Or.inr ⟨hno, rfl, Or.inr ⟨hall, rfl⟩⟩)
    clear sr hno hall BX
    go_wp2_with fail
    go_ret
    exact ⟨_, _, rfl, HW.out, SR.out⟩
end
end Go.Proofs.Ytdnonhhphkmlmaa
