/- Layer 14: what a server may use of a span at most, as the document says. -/
import Derived.Test.YtdemhhmceiaohaaCpuY
namespace Go.Proofs.Ytdemhhmceiaohaa
open Go.RowKit
set_option linter.unusedVariables false
set_option maxRecDepth 100000
set_option maxHeartbeats 1000000
def most14 (S : Ld) (x : Nat) : Nat := min (upN x S.per.toNat * S.b.toNat) x
theorem Gh.idle_all {m : Nat} {W : Nat → Wk} {S : Nat → Ld} {t : Nat} {T : Nat → CTk} {V : Nat → Sv} {s : QS} {h : Nat → Int} {r b : Nat → Nat → Bool} (G : Gh 0 m W S t T V s h r b) : s.all = [] := by
  cases hc : s.all with
  | nil => rfl
  | cons x l =>
    have hx : s.pr x.1 = some x.2 := G.q.all_mem.1 (by rw [hc]; exact List.mem_cons_self)
    exact absurd ((G.link x.1 x.2).1 hx).1 (by omega)
theorem cntL_since {f : Nat → Bool} {t bg : Nat} (b : Bool) (h : f t = false) : cntL (also f t b) bg (t + 1 - bg) = cntL f bg (t - bg) + (if bg ≤ t then b.toNat else 0) := by
  by_cases hb : bg ≤ t
  · rw [if_pos hb, cntL_step hb, also_self, cntL_also_out _ (Or.inr (by omega))]
  · rw [if_neg hb, cntL_gone (by omega), cntL_gone (by omega)]
end Go.Proofs.Ytdemhhmceiaohaa
