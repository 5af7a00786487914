/- Layer 17: a processor: Tick, when no time is left. -/
import Derived.Test.YtdnonhhphkmlmaaCpuO
namespace Go.Proofs.Ytdnonhhphkmlmaa
open Go.RowKit
set_option linter.unusedVariables false
set_option maxRecDepth 100000
set_option maxHeartbeats 1000000
def TickN (w0 : World) (S0 : Nat → Prop) (X : List Res) (p : Pl) (T : Nat → CTk) (V : Nat → Sv) (now : Int) (s : QS) (e : Ending) (w' : World) : Prop :=
  e = .returned (.tuple #[.agg #[.int .i64 0, .slice none 0 0, .slice none 0 0, .slice none 0 0], .int .i64 2]) ∧ ∃ a V', WhoP p.m V now s a V' ∧ St w0 S0 w' (CpuL p T V' now s ++ X)
section
variable {w0 w : World} {S0 : Nat → Prop} {X : List Res} {p : Pl} {T T' : Nat → CTk} {V V' : Nat → Sv} {now id dem : Int} {s s' : QS}
theorem cTick_no (H : St w0 S0 w (CpuL p T V now s ++ X)) (hm : p.m ≤ 100) (n0 : 0 ≤ now) (n1 : now < 4611686018427387904) (n2 : 4611686018427387904 ≤ now + 1) (hv : ∀ j, j < p.m → SvOK now (V j)) {q : Nat} (hs : s.ok q) :
    Calls Try.prog 17 #[.pointer (some ⟨p.c, 0, none⟩)] w (TickN w0 S0 X p T V now s) := by
  have sb := H.box 39 #[.int .i64 0, .slice none 0 0, .slice none 0 0, .slice none 0 0]
  obtain ⟨r, hr⟩ : ∃ r, w.heap.size = r := ⟨_, rfl⟩
  rw [hr, List.append_assoc] at sb
  have WC := Lib.hid (cWho_c sb hv hm n0 n1 hs)
  clear H hv hs sb
  go_enter Try.func17, Try.ntmps17
  go_wp2_with fail
  refine WC.out.mono ?_
  rintro e w2 ⟨a, V2, rfl, hw, s2⟩
  have HW := Lib.hid hw
  have SC := Lib.hid (cStep_no s2 a n0 n2)
  clear WC s2 hw hr
  go_wp2_with fail
  refine SC.out.mono ?_
  rintro e w3 ⟨rfl, s3⟩
  have s4 : St w0 S0 w3 ([BlkR r 39 #[.int .i64 0, .slice none 0 0, .slice none 0 0, .slice none 0 0]] ++ (CpuL p T V2 now s ++ X)) := by
    rw [← List.append_assoc] at s3
    exact s3.comm
  obtain ⟨h0, h1, h2, h3⟩ := (s4.blk 0 rfl).four4
  have f0 := (s4.blk 0 rfl).frozen 0
  have f1 := (s4.blk 0 rfl).frozen 1
  have f2 := (s4.blk 0 rfl).frozen 2
  have f3 := (s4.blk 0 rfl).frozen 3
  have sc := (((s4.set_ 0 rfl 0 (.int .i64 0)).set_ 0 rfl 1 (.slice none 0 0)).set_ 0 rfl 2 (.slice none 0 0)).set_ 0 rfl 3 (.slice none 0 0)
  obtain ⟨y0, y1, y2, y3⟩ := (sc.blk 0 rfl).four4
  have SD := Lib.hid (sc.drop 0 (by simp))
  clear sc s3 s4 SC
  go_wp2_with fail
  refine bodyPost_ret (v := .tuple #[.agg #[.int .i64 0, .slice none 0 0, .slice none 0 0, .slice none 0 0], .int .i64 2]) ?_ rfl ⟨rfl, a, V2, HW.out, SD.out⟩
  clear f0 f1 f2 f3 h0 h1 h2 h3 SD
  generalize (((w3.setCell ⟨r, 0, none⟩ (.int .i64 0)).setCell ⟨r, 1, none⟩ (.slice none 0 0)).setCell ⟨r, 2, none⟩ (.slice none 0 0)).setCell ⟨r, 3, none⟩ (.slice none 0 0) = wz at *
  simp [results, Try.results17, go_sem, y0, y1, y2, y3]
end
end Go.Proofs.Ytdnonhhphkmlmaa
