/- Layer 17: a queue's bound is taken down again. Plain theorems. -/
import Derived.Test.YtdnonhhphkmlmaaCpuN
import Derived.Test.YtdnonhhphkmlmaaReadyB
namespace Go.Proofs.Ytdnonhhphkmlmaa
open Go.RowKit
set_option linter.unusedVariables false
theorem nat_small : ∀ (N : Nat) (l : List Nat), l.Nodup → (∀ x ∈ l, x < N) → l.length ≤ N
  | 0, l, _, h => by
    cases l with
    | nil => exact Nat.le_refl _
    | cons a t => exact absurd (h a List.mem_cons_self) (Nat.not_lt_zero a)
  | N + 1, l, hn, h => by
    have h2 := nat_small N (l.filter fun x => decide (x ≠ N)) (hn.filter _) fun x hx => by
      rw [List.mem_filter] at hx
      have := h x hx.1
      have := of_decide_eq_true hx.2
      omega
    by_cases hN : N ∈ l
    · have := filter_one hn hN
      omega
    · have : (l.filter fun x => decide (x ≠ N)) = l := List.filter_eq_self.2 fun x hx => decide_eq_true (p := x ≠ N) fun e => hN (e ▸ hx)
      rw [this] at h2; omega
/-- However many came: there are at most as many as there are numbers. -/
theorem QS.ok.low {m : Nat} {s : QS} (h : s.ok m) : s.ok 64 :=
  ⟨h.mem, h.bd, h.nd, by
    rw [← ids_len]
    exact nat_small 64 s.ids h.ids_nd fun x hx => h.ids_lt hx, by omega⟩
end Go.Proofs.Ytdnonhhphkmlmaa
