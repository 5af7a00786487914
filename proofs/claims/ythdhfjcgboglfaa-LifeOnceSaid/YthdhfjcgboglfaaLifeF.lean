/- Layer 19: a book: the free timer; Open. -/
import Derived.Test.YthdhfjcgboglfaaLifeE
import Derived.Test.YthdhfjcgboglfaaTickC
import Derived.LoopTactic
namespace Go.Proofs.Ythdhfjcgboglfaa
open Go.RowKit
set_option linter.unusedVariables false
set_option maxRecDepth 100000
set_option maxHeartbeats 4000000
theorem cf_free {p : Nat → Bool} : ∀ {n : Nat}, cf p n < n → ∃ k, k < n ∧ p k = false ∧ ∀ j, j < k → p j = true
  | 0, h => by omega
  | n + 1, h => by
    rw [cf_succ] at h
    by_cases hn : cf p n < n
    · obtain ⟨k, h1, h2, h3⟩ := cf_free hn
      exact ⟨k, by omega, h2, h3⟩
    · refine ⟨n, by omega, ?_, fun j hj => ?_⟩
      · cases hp : p n with
        | false => rfl
        | true => rw [if_pos hp] at h; have := cf_le p n; omega
      · cases hp : p j with
        | true => rfl
        | false =>
          exfalso
          have h1 := (cf_upd p j true n).1 hj
          rw [if_neg (by rw [hp]; decide), if_pos rfl] at h1
          have h2 := cf_le (fun i => if i = j then true else p i) n
          omega
/-- The first timer that nobody has. -/
def freeO (op : Nat → Option (Int × Int)) : Nat := ((List.range 64).find? fun k => (op k).isNone).getD 0
theorem find_first {p : Nat → Bool} {n k : Nat} (hk : k < n) (h : p k = true) (hl : ∀ j, j < k → p j = false) : (List.range n).find? p = some k := by
  rw [List.find?_range_eq_some]
  exact ⟨h, by simpa using hk, fun j hj => by rw [hl j hj]; rfl⟩
theorem free_get {op : Nat → Option (Int × Int)} (h : cntO op < 64) : freeO op < 64 ∧ op (freeO op) = none ∧ ∀ j, j < freeO op → op j ≠ none := by
  obtain ⟨k, h1, h2, h3⟩ := cf_free h
  have e : freeO op = k := by
    unfold freeO
    rw [find_first h1 (by cases hk : op k with | none => rfl | some x => rw [hk] at h2; cases h2) fun j hj => by
      have := h3 j hj
      cases hk : op j with
      | none => rw [hk] at this; cases this
      | some x => rfl]
    rfl
  rw [e]
  refine ⟨h1, ?_, fun j hj hn => ?_⟩
  · cases hk : op k with
    | none => rfl
    | some x => rw [hk] at h2; cases h2
  · have := h3 j hj
    rw [hn] at this; cases this
theorem IdxA_c {w : World} {b : Nat} {f : Nat → Int} {v : Int} (hc : ∀ j, j < 64 → w.cell? ⟨b, 3 + j, none⟩ = some (.int .i64 (f j))) {k0 : Nat} (hk : k0 < 64) (h0 : f k0 = v) (hno : ∀ j, j < k0 → f j ≠ v) :
    Calls Try.prog 33 #[.slice (some ⟨b, 3, none⟩) 64 64, .int .i64 v] w fun e w' => e = .returned (.int .i64 (k0 : Int)) ∧ w = w' := by
  have HC := Lib.hid hc
  have H0 := Lib.hid h0
  have HN := Lib.hid hno
  clear hc h0 hno
  go_enter Try.func33, Try.ntmps33
  go_wp2_with fail
  go_loopw [8] (fun i wr => ∃ k : Nat, k ≤ k0 ∧ i = .int .i64 (k : Int) ∧ wr = w) (fun i _ => 64 - (intOf i).toNat)
  case atStart => exact ⟨0, by omega, rfl, rfl⟩
  case round =>
    obtain ⟨k, hkk, rfl, rfl⟩ := hrel
    have t1 : decide ((k : Int) < 64) = true := decide_eq_true (by omega)
    have t1' : decide (k < 64) = true := decide_eq_true (by omega)
    have c0 := HC.out k (by omega)
    obtain ⟨y, hy⟩ : ∃ y, f k = y := ⟨_, rfl⟩
    rw [hy] at c0
    have HY := Lib.hid hy
    clear hy
    by_cases e : k = k0
    · subst e
      have z1 : (v == y) = true := by rw [← H0.out, HY.out]; exact beq_self_eq_true y
      go_wp2_with fail
      go_ret
      exact ⟨rfl, rfl⟩
    · have z1 : (v == y) = false := beq_eq_false_iff_ne.2 fun h => HN.out k (by omega) (by rw [HY.out, h])
      go_wp2_with fail
      go_roundw
      case rel => exact ⟨k + 1, by omega, by go_num, by first | rfl | trivial⟩
      case measure => simp [intOf]; omega
theorem bNow_q {w0 w : World} {S0 : Nat → Prop} {L : List Res} {now : Int} {T : Int → Option Int} (H : St w0 S0 w L) (i : Nat) {c : Nat} (hi : L[i]? = some (WheelR c now T)) : Calls Try.prog 25 #[.pointer (some ⟨c, 0, none⟩)] w fun e w' => e = .returned (.int .u64 now) ∧ w = w' := by
  obtain ⟨S, ok, bw, mb, hs⟩ := H.get i hi
  have c0 := wl_now (St.start hs)
  clear hs ok H hi
  go_enter Try.func25, Try.ntmps25
  go_wp2_with fail
  go_ret
  exact ⟨rfl, rfl⟩
def lftO (t u : Int) : Int := if u ≤ t then 0 else u - t
theorem left_o (t u : Int) (w : World) (h0 : 0 ≤ t) (h1 : u ≤ 18446744073709551615) : Calls Try.prog 24 #[.int .u64 t, .int .u64 u] w fun e w' => e = .returned (.int .u64 (lftO t u)) ∧ w = w' := by
  unfold lftO
  by_cases h : u ≤ t
  · rw [if_pos h]; exact left_0 t u w h
  · rw [if_neg h]; exact left_pos t u w h0 (by omega) h1
section
variable {w0 w w' : World} {S0 : Nat → Prop} {L X : List Res} {b cw mb cap : Nat} {A : Option Addr} {s : Bk} {id dead : Int}
theorem lFree_c (H : St w0 S0 w (BookL b cw mb A cap s ++ X)) (ok : s.ok) (hn : cntO s.op < 64) : Calls Try.prog 26 #[.pointer (some ⟨b, 0, none⟩)] w fun e w' => e = .returned (.int .i64 (freeO s.op : Int)) ∧ w = w' := by
  obtain ⟨f1, f2, f3⟩ := free_get hn
  have hc : ∀ j, j < 64 → w.cell? ⟨b, 3 + j, none⟩ = some (.int .i64 (wsO s.op j)) := fun j hj => by
    have c := bk_cell H (j := 3 + j) (by omega)
    unfold bkV at c
    rw [if_neg (by omega), if_neg (by omega), if_neg (by omega), if_pos (by omega), Nat.add_sub_cancel_left] at c
    exact c
  have IC := Lib.hid (IdxA_c hc f1 (v := -1) (by unfold wsO; rw [f2]) fun j hj e => by
    unfold wsO at e
    cases ho : s.op j with
    | none => exact f3 j hj ho
    | some x =>
      rw [ho] at e
      have := ok.bd j x ho
      dsimp only at e
      omega)
  have n0 := H.arr_frozen 0 rfl 3
  clear H hc ok f1 f2 f3 hn
  generalize freeO s.op = k at *
  go_enter Try.func26, Try.ntmps26
  go_wp2_with fail
  refine IC.out.mono ?_
  rintro e w1 ⟨rfl, rfl⟩
  go_wp2_with fail
  go_ret
  exact ⟨rfl, rfl⟩
/-- What Open answers, and does. -/
def opnA (s : Bk) (id dead : Int) : Int := if id < 0 ∨ 65535 < id then 1 else if 4611686018427387904 ≤ dead then 2 else if (slotO s.op id).isSome = true then 7 else if cntO s.op = 64 then 4 else if dead ≤ s.now + s.cost then 11 else 0
def Bk.opn (s : Bk) (id dead : Int) : Bk := if opnA s id dead = 0 then { s with op := updO s.op (freeO s.op) (some (id, dead)) } else s
theorem cntO_le (op : Nat → Option (Int × Int)) : cntO op ≤ 64 := cf_le _ _
theorem opnA_0 (h : opnA s id dead = 0) : 0 ≤ id ∧ id ≤ 65535 ∧ dead < 4611686018427387904 ∧ slotO s.op id = none ∧ cntO s.op < 64 ∧ s.now + s.cost < dead := by
  unfold opnA at h
  split at h
  · cases h
  split at h
  · cases h
  split at h
  · cases h
  split at h
  · cases h
  split at h
  · cases h
  rename_i h1 h2 h3 h4 h5
  refine ⟨by omega, by omega, by omega, by cases hs : slotO s.op id with | none => rfl | some k => rw [hs] at h3; exact absurd rfl h3, ?_, by omega⟩
  have := cntO_le s.op
  omega
theorem Bk.ok.opn (ok : s.ok) (id dead : Int) : (s.opn id dead).ok := by
  unfold Bk.opn
  split
  · rename_i h
    obtain ⟨h1, h2, h3, h4, h5, h6⟩ := opnA_0 h
    obtain ⟨f1, f2, f3⟩ := free_get h5
    refine ⟨ok.c0, ok.c1, ok.n0, ok.U.put f1 h4, fun j x hx => ?_⟩
    have hx : updO s.op (freeO s.op) (some (id, dead)) j = some x := hx
    by_cases e : j = freeO s.op
    · rw [e, updO_self] at hx
      injection hx with hx
      subst hx
      exact ⟨h1, h2, by show s.now < dead - s.cost; omega, h3⟩
    · rw [updO_ne _ _ e] at hx; exact ok.bd j x hx
  · exact ok
theorem Bk.T_put {s : Bk} {k : Nat} (hk : k < 64) (id dead : Int) : Bk.T { s with op := updO s.op k (some (id, dead)) } = updT s.T (k : Int) (some (dead - s.cost)) := by
  funext i
  show (if 0 ≤ i ∧ i < 64 then (updO s.op k (some (id, dead)) i.toNat).map (fun x => x.2 - s.cost) else none) = if i = (k : Int) then some (dead - s.cost) else (if 0 ≤ i ∧ i < 64 then (s.op i.toNat).map (fun x => x.2 - s.cost) else none)
  by_cases e : i = (k : Int)
  · subst e
    rw [if_pos rfl, if_pos (by omega), Int.toNat_natCast, updO_self]; rfl
  · rw [if_neg e]
    by_cases h : 0 ≤ i ∧ i < 64
    · rw [if_pos h, if_pos h, updO_ne _ _ (by omega)]
    · rw [if_neg h, if_neg h]
end
end Go.Proofs.Ythdhfjcgboglfaa
