/- Layer 14: what a server may use of a span at most, as the document says. -/
import Derived.Test.YtdnonhhphkmlmaaCpuY
namespace Go.Proofs.Ytdnonhhphkmlmaa
open Go.RowKit
set_option linter.unusedVariables false
set_option maxRecDepth 100000
set_option maxHeartbeats 1000000
def most14 (S : Ld) (x : Nat) : Nat := min (upN x S.per.toNat * S.b.toNat) x
theorem rmost14_c (S : Ld) (ok : S.ok) (x : Nat) (hx : x ≤ 1073741824) (w : World) (y : Int) (hy : y = (most14 S x : Nat)) :
    Calls Try.prog 20 #[.agg #[.int .i64 S.b, .int .u64 S.per], .int .u64 (x : Int)] w fun e w' => e = .returned (.int .u64 y) ∧ Below w.heap.size w w' := by
  obtain ⟨p, r⟩ := S
  obtain ⟨o1, o2, o3, o4⟩ := ok
  dsimp only at o1 o2 o3 o4 ⊢
  have hu := upN_cast (s := x) (p := r.toNat) (by omega)
  rw [Int.toNat_of_nonneg (show 0 ≤ r by omega)] at hu
  have hm1 := upN_mul_le (s := x) (p := r.toNat) (c := p.toNat) (by omega) (by omega)
  obtain ⟨u, hu2⟩ : ∃ u : Int, ((upN x r.toNat : Nat) : Int) = u := ⟨_, rfl⟩
  have hmc : ((upN x r.toNat * p.toNat : Nat) : Int) = u * p := by rw [Int.natCast_mul, hu2, Int.toNat_of_nonneg (by omega)]
  obtain ⟨z, hz⟩ : ∃ z : Int, u * p = z := ⟨_, rfl⟩
  rw [hz] at hmc
  rw [hu2] at hu
  have z0 : 0 ≤ z ∧ z ≤ 1073741824 + 200 := by omega
  have HY := Lib.hid (show y = min z (x : Int) by rw [hy]; unfold most14; dsimp only; omega)
  have hwc : IntKind.u64.wrap p = p := IntWalk.u64_in _ ⟨by omega, by omega⟩
  have hw1 : IntKind.u64.wrap z = z := IntWalk.u64_in _ ⟨by omega, by omega⟩
  have d0 : decide (1099511627776 < (x : Int)) = false := decide_eq_false (by omega)
  have d0' : decide (1099511627776 < x) = false := decide_eq_false (by omega)
  have UP := Lib.hid (fun W => rup_any (x : Int) r W (by omega) (by omega) (by omega))
  rw [hu] at UP
  have s1 := (St.begin w).box 49 #[.int .i64 p, .int .u64 r]
  obtain ⟨g, hg⟩ : ∃ g, w.heap.size = g := ⟨_, rfl⟩
  rw [hg, List.nil_append] at s1
  obtain ⟨b0, b1⟩ := (s1.blk 0 rfl).two
  have MY := Lib.hid (fun W => rmay_yes p r W ⟨by omega, by omega, by omega, by omega⟩)
  have S1 := Lib.hid s1
  clear s1 hu hu2 hm1 hmc hy
  go_enter Try.func20, Try.ntmps20
  go_wp2_with fail
  refine (MY.out _).mono ?_
  rintro e w2 ⟨rfl, hb2⟩
  have S2 := Lib.hid (S1.out.stay hb2)
  obtain ⟨b0, b1⟩ := (S2.out.blk 0 rfl).two
  clear hb2 S1
  go_wp2_with fail
  go_quiet ((go_at_call 33; exact q_left (UP.out _)))
  have S3 := Lib.hid (S2.out.drewN nq)
  clear S2 b0 b1
  generalize w2.drewN nq = w3 at *
  by_cases h : (x : Int) < z
  · have y1 : decide ((x : Int) < z) = true := decide_eq_true h
    obtain rfl : y = (x : Int) := by rw [HY.out]; omega
    go_wp2_with fail
    go_ret
    exact ⟨rfl, by have := S3.out.below; rw [hg] at this; first | exact this | (rw [hg]; exact this)⟩
  · have y1 : decide ((x : Int) < z) = false := decide_eq_false h
    obtain rfl : y = z := by rw [HY.out]; omega
    go_wp2_with fail
    go_ret
    exact ⟨rfl, by have := S3.out.below; rw [hg] at this; first | exact this | (rw [hg]; exact this)⟩
theorem Gh.idle_all {m : Nat} {W : Nat → Wk} {S : Nat → Ld} {t : Nat} {T : Nat → CTk} {V : Nat → Sv} {s : QS} {h : Nat → Int} {r b : Nat → Nat → Bool} (G : Gh 0 m W S t T V s h r b) : s.all = [] := by
  cases hc : s.all with
  | nil => rfl
  | cons x l =>
    have hx : s.pr x.1 = some x.2 := G.q.all_mem.1 (by rw [hc]; exact List.mem_cons_self)
    exact absurd ((G.link x.1 x.2).1 hx).1 (by omega)
theorem cntL_since {f : Nat → Bool} {t bg : Nat} (b : Bool) (h : f t = false) : cntL (also f t b) bg (t + 1 - bg) = cntL f bg (t - bg) + (if bg ≤ t then b.toNat else 0) := by
  by_cases hb : bg ≤ t
  · rw [if_pos hb, cntL_step hb, also_self, cntL_also_out _ (Or.inr (by omega))]
  · rw [if_neg hb, cntL_gone (by omega), cntL_gone (by omega)]
end Go.Proofs.Ytdnonhhphkmlmaa
