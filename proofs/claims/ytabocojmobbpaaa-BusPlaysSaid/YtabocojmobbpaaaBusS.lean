/- Layer 6: the document's own bus: Slot. -/
import Derived.Test.YtabocojmobbpaaaBusR
import Derived.Deep.DeepCutAuto
namespace Go.Proofs.Ytabocojmobbpaaa
open Go.RowKit
set_option linter.unusedVariables false
set_option maxRecDepth 100000
set_option maxHeartbeats 800000
theorem Try.infoHad : (Try.prog.info? 84).map (fun i => (i.zero, i.size, i.bytes)) = some (some (.agg #[.int .u64 0, .int .i64 0]), 2, 16) := by kernel_rfl
theorem Try.infoB : (Try.prog.info? 4).map (fun i => (i.zero, i.size, i.bytes)) = some (some (.bool false), 1, 1) := by kernel_rfl
theorem St.front_row {w0 w : World} {S0 : Nat → Prop} {L : List Res} (h : St w0 S0 w L) (t : TypeId) (n : Nat) (z : Value) : St w0 S0 (w.alloc (.cells (madeCells #[z] n) t)) (ArrR w.heap.size t n (fun _ => z) :: L) := (h.made_row t n z).comm
section
variable {w0 w w' : World} {S0 : Nat → Prop} {C : BC} {A : Option Addr} {cap r sb : Nat} {rp : Nat → Nat} {Am : Option Addr} {cm : Nat} {Ah : Option Addr} {ch : Nat} {M now : Int} {hr : List (Int × Int)} {s : BS} {V : Nat → Nat → Value}
theorem rslot_hor {A2 : Option Addr} {nw cap2 : Nat} (hl : ¬ now < 4611686018427387904) :
    Calls Try.prog 16 #[.pointer (some ⟨r, 0, none⟩), .int .u64 now, .slice A2 nw cap2] w fun e w' => e = .returned (.tuple #[.int .i64 0, .int .i64 2]) ∧ w = w' := by
  have d1 : decide (4611686018427387904 ≤ now) = true := decide_eq_true (by omega)
  go_enter Try.func16, Try.ntmps16
  go_wp2_with fail
  go_ret2
  exact ⟨rfl, rfl⟩
theorem rslot_bad {A2 : Option Addr} {nw cap2 : Nat} {f : Nat → Int} (hl : now < 4611686018427387904) (c0 : w.cell? ⟨r, 0, none⟩ = some (.slice A C.n cap)) (hn : C.n ≤ 16) (hm : nw ≤ maxLen) (rd : Rd w A2 nw (fun j => .int .i64 (f j)))
    (hf : ¬ ∀ j, j < nw → 0 ≤ f j ∧ f j < C.n) :
    Calls Try.prog 16 #[.pointer (some ⟨r, 0, none⟩), .int .u64 now, .slice A2 nw cap2] w fun e w' => e = .returned (.tuple #[.int .i64 0, .int .i64 1]) ∧ Below w.heap.size w w' := by
  have d1 : decide (4611686018427387904 ≤ now) = false := decide_eq_false (by omega)
  unfold maxLen at hm
  obtain ⟨i0, h1, h2, h3⟩ := first_bad hf
  clear hf
  go_enter Try.func16, Try.ntmps16
  go_wp2_with fail
  go_loopw [8] (fun i wr => ∃ k q : Nat, k ≤ i0 ∧ i = .int .i64 k ∧ wr = w.drewN q) (fun i _ => nw - (intOf i).toNat)
  case atStart => exact ⟨0, 0, by omega, rfl, rfl⟩
  case round =>
    obtain ⟨k, q, hk, rfl, rfl⟩ := hrel
    obtain ⟨ib, off, rfl, hib, hcell⟩ := rd (by omega)
    have ck := hcell k (by omega)
    dsimp only at ck
    have i0' : (0 : Int) ≤ (k : Int) := by omega
    have i1' : (k : Int) < (nw : Int) := by omega
    by_cases hlt : k < i0
    · have hb := h3 k hlt
      obtain ⟨x, hx⟩ : ∃ x, f k = x := ⟨_, rfl⟩
      rw [hx] at hb ck
      have d2 : decide (x < 0) = false := decide_eq_false (by omega)
      have d3 : decide ((C.n : Int) ≤ x) = false := decide_eq_false (by omega)
      clear hcell hx h2 h3
      go_wp2_with fail
      go_quiet (fail)
      go_wp2
      go_roundw
      case rel => exact ⟨k + 1, _, by omega, by go_num, rfl⟩
      case measure => simp [intOf]; omega
    · obtain rfl : k = i0 := by omega
      obtain ⟨x, hx⟩ : ∃ x, f k = x := ⟨_, rfl⟩
      rw [hx] at h2 ck
      clear hcell hx h3
      by_cases hx0 : x < 0
      · have d2 : decide (x < 0) = true := decide_eq_true hx0
        clear h2
        go_wp2_with fail
        go_quiet (fail)
        go_wp2
        go_ret2
        exact ⟨rfl, below_drewN (below_drewN (Below.refl _ _) _) _⟩
      · have d2 : decide (x < 0) = false := decide_eq_false hx0
        have d3 : decide ((C.n : Int) ≤ x) = true := decide_eq_true (by omega)
        clear h2
        go_wp2_with fail
        go_quiet (fail)
        go_wp2
        go_ret2
        exact ⟨rfl, below_drewN (below_drewN (Below.refl _ _) _) _⟩
theorem rslot_late {A2 : Option Addr} {nw cap2 : Nat} {f : Nat → Int} (hl : now < 4611686018427387904) (hB : Blk w r 48 #[.slice A C.n cap, .int .u64 C.ph, .slice Am C.n cm, .slice (some ⟨sb, 0, none⟩) C.n C.n, .slice Ah hr.length ch])
    (hls : Lis w 84 2 (.slice Ah hr.length ch) hr.length (hc hr)) (ho : HOK C.ph s hr) (hlen : hr.length ≤ 200) (hn : C.n ≤ 16) (hm : nw ≤ maxLen) (rd : Rd w A2 nw (fun j => .int .i64 (f j)))
    (hf : ∀ j, j < nw → 0 ≤ f j ∧ f j < C.n) (hx : now < s.next) :
    Calls Try.prog 16 #[.pointer (some ⟨r, 0, none⟩), .int .u64 now, .slice A2 nw cap2] w fun e w' => e = .returned (.tuple #[.int .i64 0, .int .i64 1]) ∧ Below w.heap.size w w' := by
  have d1 : decide (4611686018427387904 ≤ now) = false := decide_eq_false (by omega)
  unfold maxLen at hm
  have c0 := hB.five.1
  have c1 := hB.five.2.1
  have c4 := hB.five.2.2.2.2
  have HL := Lib.hid hls
  have HO := Lib.hid ho
  clear hls ho hB
  go_enter Try.func16, Try.ntmps16
  go_wp2_with fail
  go_loopw [8] (fun i wr => ∃ k q : Nat, k ≤ nw ∧ i = .int .i64 k ∧ wr = w.drewN q) (fun i _ => nw - (intOf i).toNat)
  case atStart => exact ⟨0, 0, by omega, rfl, rfl⟩
  case round =>
    obtain ⟨k, q, hk, rfl, rfl⟩ := hrel
    by_cases hlt : k < nw
    · obtain ⟨ib, off, rfl, hib, hcell⟩ := rd (by omega)
      have ck := hcell k (by omega)
      dsimp only at ck
      have i0' : (0 : Int) ≤ (k : Int) := by omega
      have i1' : (k : Int) < (nw : Int) := by omega
      have hb := hf k hlt
      obtain ⟨x, hx⟩ : ∃ x, f k = x := ⟨_, rfl⟩
      rw [hx] at hb ck
      have d2 : decide (x < 0) = false := decide_eq_false (by omega)
      have d3 : decide ((C.n : Int) ≤ x) = false := decide_eq_false (by omega)
      clear hcell hx hf
      go_wp2_with fail
      go_quiet (fail)
      go_wp2
      go_roundw
      case rel => exact ⟨k + 1, _, by omega, by go_num, rfl⟩
      case measure => simp [intOf]; omega
    · clear hf rd
      by_cases hp : now < C.ph
      · have d2 : decide (now < C.ph) = true := decide_eq_true hp
        go_wp2_with fail
        go_quiet (fail)
        go_wp2
        go_ret2
        exact ⟨rfl, below_drewN (below_drewN (Below.refl _ _) _) _⟩
      · have d2 : decide (now < C.ph) = false := decide_eq_false hp
        cases hr with
        | nil => have := HO.out.emp rfl; omega
        | cons p t =>
          have htop := HO.out.top p t rfl
          obtain ⟨g, off, rfl, hcc⟩ := HL.out.reads.2.resolve_left (by simp)
          have x0 := hcc _ _ (hc_at (l := p :: t) (d := 0) rfl).1
          have e0 : (p :: t).length - 1 - 0 = t.length := by simp
          rw [e0] at x0
          have el : (p :: t).length = t.length + 1 := by simp
          rw [el] at c4 hlen
          have d3 : decide (now ≤ p.1) = true := decide_eq_true (by omega)
          have d4 : decide ((0 : Int) < ((t.length + 1 : Nat) : Int)) = true := decide_eq_true (by omega)
          have d5 : decide ((0 : Int) < (t.length : Int) + 1) = true := decide_eq_true (by omega)
          obtain ⟨q2, hq2⟩ : ∃ q2, t.length = q2 := ⟨_, rfl⟩
          rw [hq2] at c4 x0 hlen d4 d5
          obtain ⟨p1, p2⟩ := p
          dsimp only at x0 d3
          have i0' : (0 : Int) ≤ (q2 : Int) := by omega
          clear hcc htop e0 el hq2 HL HO
          go_wp2_with fail
          go_quiet (fail)
          go_wp2
          go_ret2
          exact ⟨rfl, below_drewN (below_drewN (Below.refl _ _) _) _⟩
end
end Go.Proofs.Ytabocojmobbpaaa
