/- Layer 10: the document's own ring in memory: all that were put. -/
import Derived.Test.YtboepnfekfhppaaRingI
import Derived.Deep.RegionLaw
namespace Go.Proofs.Ytboepnfekfhppaa
open Go.RowKit
set_option linter.unusedVariables false
set_option maxRecDepth 100000
set_option maxHeartbeats 1000000
/-- The document's ring. -/
def RRL (p : Nat) (A : Option Addr) (c n : Nat) (s : RSt) : List Res := [BlkR p 31 #[.int .i64 n, .slice A s.put c, .int .i64 s.taken, .int .i64 s.reaped], LisR 36 9 (.slice A s.put c) s.put (dsl s.D s.put)]
def RRR (p n : Nat) (s : RSt) : Res := fun w S => ∃ A c, Star (RRL p A c n s) w S
theorem RRR.ok (p n : Nat) (s : RSt) : Ok (RRR p n s) :=
  ⟨fun ⟨A, c, h⟩ b hb => (Star.ok _).lt h b hb, fun ⟨A, c, h⟩ hk => ⟨A, c, (Star.ok _).frame h hk⟩⟩
theorem dsl_setD (D : Nat → Dsc) (m : Nat) (d : Dsc) : dsl (setD D m d) (m + 1) = dsl D m ++ [.int .i64 d.op, .int .i64 d.req, .int .i64 d.slot, .int .u64 d.gen, .int .i64 d.frm, .int .i64 d.len, .bool d.dv, .bool d.dn, .int .i64 d.st] := by
  rw [dsl_snoc, dsl_like (D' := D) fun j hj => by unfold setD; rw [if_neg (by omega)]]
  unfold setD; rw [if_pos rfl]
theorem dsl_fin (D : Nat → Dsc) {m k : Nat} (hk : k < m) (st : Int) : (((dsl D m).set (k * 9 + 6) (.bool false)).set (k * 9 + 7) (.bool true)).set (k * 9 + 8) (.int .i64 st) = dsl (setD D k ((D k).fin st)) m := by
  unfold dsl
  rw [grid_set _ _ hk (by omega), grid_set _ _ hk (by omega), grid_set _ _ hk (by omega)]
  refine grid_like fun j q hj hq => ?_
  unfold upd2 setD
  by_cases e : j = k
  · subst e
    match q, hq with
    | 0, _ | 1, _ | 2, _ | 3, _ | 4, _ | 5, _ | 6, _ | 7, _ | 8, _ => simp [Dsc.c, Dsc.fin]
  · simp [e]
section
variable {w0 w : World} {S0 S : Nat → Prop} {L : List Res} {p n : Nat} {s s' : RSt}
theorem rr4 {w : World} {A : Option Addr} {c : Nat} (h : Blk w p 31 #[.int .i64 n, .slice A s.put c, .int .i64 s.taken, .int .i64 s.reaped]) : w.cell? ⟨p, 0, none⟩ = some (.int .i64 n) ∧ w.cell? ⟨p, 1, none⟩ = some (.slice A s.put c) ∧ w.cell? ⟨p, 2, none⟩ = some (.int .i64 s.taken) ∧ w.cell? ⟨p, 3, none⟩ = some (.int .i64 s.reaped) := h.four
/-- One that was put. -/
theorem rr9 {w : World} {A : Option Addr} {c m : Nat} {D : Nat → Dsc} (h : Lis w 36 9 (.slice A m c) m (dsl D m)) {k : Nat} (hk : k < m) : ∃ b off, A = some ⟨b, off, none⟩ ∧ (w.cell? ⟨b, off + k * 9, none⟩ = some (.int .i64 (D k).op) ∧ w.cell? ⟨b, off + k * 9 + 1, none⟩ = some (.int .i64 (D k).req) ∧ w.cell? ⟨b, off + k * 9 + 2, none⟩ = some (.int .i64 (D k).slot) ∧ w.cell? ⟨b, off + k * 9 + 3, none⟩ = some (.int .u64 (D k).gen) ∧ w.cell? ⟨b, off + k * 9 + 4, none⟩ = some (.int .i64 (D k).frm) ∧ w.cell? ⟨b, off + k * 9 + 5, none⟩ = some (.int .i64 (D k).len) ∧ w.cell? ⟨b, off + k * 9 + 6, none⟩ = some (.bool (D k).dv) ∧ w.cell? ⟨b, off + k * 9 + 7, none⟩ = some (.bool (D k).dn) ∧ w.cell? ⟨b, off + k * 9 + 8, none⟩ = some (.int .i64 (D k).st)) ∧ ∀ i, w.frozen? ⟨b, i, none⟩ = false := by
  rcases h.reads.2 with h0 | ⟨b, off, rfl, hc⟩
  · omega
  · have g := fun q (hq : q < 9) => hc _ _ (dsl_at D hk hq)
    refine ⟨b, off, rfl, ⟨?_, ?_, ?_, ?_, ?_, ?_, ?_, ?_, ?_⟩, fun i => h.frozen i⟩
    · exact g 0 (by omega)
    · exact g 1 (by omega)
    · exact g 2 (by omega)
    · exact g 3 (by omega)
    · exact g 4 (by omega)
    · exact g 5 (by omega)
    · exact g 6 (by omega)
    · exact g 7 (by omega)
    · exact g 8 (by omega)
theorem RPut_c (h : RRR p n s w S) (hs : s.ok n) (d : Dsc) (hf : d.fits) (a f : Int) (hP : PutP n s d a f s') (hm : s.put + 1 ≤ 1000000) :
    Calls Try.prog 11 #[.pointer (some ⟨p, 0, none⟩), d.v] w fun e w' => e = .returned (.tuple #[.int .i64 a, .int .i64 f]) ∧ ∃ S', RRR p n s' w' S' ∧ Did S S' w w' := by
  obtain ⟨iD, hiD, hzD, hsD, hbD⟩ := any_parts Try.infoDesc
  obtain ⟨A, c, hr⟩ := h
  have HP := Lib.hid hP
  have MY := Lib.hid (fun w b hb => rmay_c d.inR w (inR_fits hf) b hb)
  have sb : St w S (w.alloc (.cells #[.int .i64 d.op, .int .i64 d.req, .int .i64 d.slot, .int .u64 d.gen, .int .i64 d.frm, .int .i64 d.len, .bool true, .bool false, .int .i64 0] 36)) [BlkR p 31 #[.int .i64 n, .slice A s.put c, .int .i64 s.taken, .int .i64 s.reaped], LisR 36 9 (.slice A s.put c) s.put (dsl s.D s.put), BlkR w.heap.size 36 d.inR.cells] := (St.start hr).box 36 d.inR.cells
  have SB := Lib.hid sb
  have n0 := hs.n0
  have n1 := hs.n1
  have hp := hs.p
  have hrp : s.reaped ≤ s.put := Nat.le_trans hs.r hs.t
  clear hP hs hf hr sb
  unfold Dsc.v
  go_enter Try.func11, Try.ntmps11
  go_wp2_with fail
  by_cases hy : d.inR.may
  case neg =>
    refine (MY.out _ false (decide_eq_false hy).symm).mono ?_
    rintro e w1 ⟨rfl, hb1⟩
    obtain ⟨rfl, rfl, rfl⟩ : a = 0 ∧ f = 1 ∧ s' = s := by
      rcases HP.out with ⟨_, h⟩ | ⟨h, _⟩ | ⟨h, _⟩
      · exact h
      · exact absurd h hy
      · exact absurd h hy
    have S2 := Lib.hid ((SB.out.stay hb1).take 2)
    clear hb1 hy
    go_wp2_with fail
    go_ret2
    exact ⟨rfl, S2.out.fin fun S' h => ⟨A, c, h⟩⟩
  refine (MY.out _ true (decide_eq_true hy).symm).mono ?_
  rintro e w1 ⟨rfl, hb1⟩
  have s2 := SB.out.stay hb1
  obtain ⟨k0, k1, k2, k3⟩ := rr4 (s2.blk 0 rfl)
  have S2 := Lib.hid s2
  have HY := Lib.hid hy
  clear hb1 hy s2 SB
  obtain ⟨R, hR⟩ : ∃ P : Int, (s.reaped : Int) = P := ⟨_, rfl⟩
  rw [hR] at k3
  have hw : IntKind.i64.wrap ((s.put : Int) - R) = (s.put : Int) - R := IntWalk.i64_in _ ⟨by omega, by omega⟩
  by_cases hfull : s.put = s.reaped + n
  case pos =>
    obtain ⟨rfl, rfl, rfl⟩ : a = 0 ∧ f = 4 ∧ s' = s := by
      rcases HP.out with ⟨h, _⟩ | ⟨_, _, h⟩ | ⟨_, h, _⟩
      · exact absurd HY.out h
      · exact h
      · omega
    have z1 : decide ((n : Int) ≤ (s'.put : Int) - R) = true := decide_eq_true (by omega)
    have hw6 : wrap64 ((s'.put : Int) - R) = (s'.put : Int) - R := IntWalk.wrap64_in _ ⟨by omega, by omega⟩
    clear hR hfull
    go_wp2_with fail
    go_quiet (fail)
    go_wp2_with fail
    go_ret2
    exact ⟨rfl, ((S2.out.drewN _).take 2).fin fun S' h => ⟨A, c, h⟩⟩
  have z1 : decide ((n : Int) ≤ (s.put : Int) - R) = false := decide_eq_false (by omega)
  obtain ⟨rfl, rfl, rfl⟩ : a = s.put ∧ f = 0 ∧ s' = ⟨s.put + 1, s.taken, s.reaped, setD s.D s.put d.inR⟩ := by
    rcases HP.out with ⟨h, _⟩ | ⟨_, h, _⟩ | ⟨_, _, h⟩
    · exact absurd HY.out h
    · exact absurd h hfull
    · exact h
  have HSN := Lib.hid (dsl_setD s.D s.put d.inR)
  have hw6 : wrap64 ((s.put : Int) - R) = (s.put : Int) - R := IntWalk.wrap64_in _ ⟨by omega, by omega⟩
  clear hfull
  go_wp2_with fail
  go_quiet (fail)
  have s3 := S2.out.drewN nq
  generalize w1.drewN nq = w3 at *
  clear k0 k1 k2 k3
  obtain ⟨k0, k1, k2, k3⟩ := rr4 (s3.blk 0 rfl)
  obtain ⟨c0, c1, c2, c3, c4, c5, c6, c7, c8⟩ := dsc9 d.inR _ w.heap.size (s3.blk 2 rfl)
  dsimp only [Dsc.inR] at c0 c1 c2 c3 c4 c5 c6 c7 c8
  have z3 : St w S ((w3.alloc (.cells #[.int .i64 d.op, .int .i64 d.req, .int .i64 d.slot, .int .u64 d.gen, .int .i64 d.frm, .int .i64 d.len, .bool true, .bool false, .int .i64 0] 36)).drew) [BlkR p 31 #[.int .i64 n, .slice A s.put c, .int .i64 s.taken, .int .i64 s.reaped], LisR 36 9 (.slice A s.put c) s.put (dsl s.D s.put), _, BlkR w3.heap.size 36 d.inR.cells] := (s3.box 36 d.inR.cells).drew
  have Z3 := Lib.hid z3
  obtain ⟨a0, a1, a2, a3⟩ := rr4 (z3.blk 0 rfl)
  have HL := Lib.hid (z3.lis 1 rfl)
  have HR := Lib.hid (rds_dsc (z3.blk 3 rfl))
  dsimp only [Dsc.inR] at HR
  have hmm := hm
  clear s3 z3 hm hR hw hw6 z1 S2 HP MY HY
  go_wp2_with fail
  go_region_law (first
    | (refine step_lis (by rfl) _ _ _ (by rfl) 36 iD (.agg #[.int .i64 0, .int .i64 0, .int .i64 0, .int .u64 0, .int .i64 0, .int .i64 0, .bool false, .bool false, .int .i64 0]) 9 64 Try.underlying29 hiD hzD hsD hbD (by rfl) (by omega) (.slice A s.put c) s.put (dsl s.D s.put) (by rfl) HL.out (some ⟨w3.heap.size, 0, none⟩) 1 1 [.int .i64 d.op, .int .i64 d.req, .int .i64 d.slot, .int .u64 d.gen, .int .i64 d.frm, .int .i64 d.len, .bool true, .bool false, .int .i64 0] (by rfl) HR.out (by simp [Value.oneCell']) (by unfold maxLen; omega) (by omega) ?_; intro B c' w5 hl hg hat; have t5 := Z3.out.lis_put 1 rfl hl hg hat; have e5 := HSN.out; dsimp only [Dsc.inR] at e5; rw [← e5] at t5; have m := rr4 (t5.blk 0 rfl); have f1 := (t5.blk 0 rfl).frozen 1; obtain ⟨m0, m1, m2, m3⟩ := m; have F5 := Lib.hid (t5.set_ 0 rfl 1 (.slice B (s.put + 1) c')); clear hl hg hat t5 e5))
  all_goals
    go_wp2_with fail
    go_ret2
    exact ⟨by simp, (F5.out.take 2).fin fun S' h => ⟨B, c', h⟩⟩
end
end Go.Proofs.Ytboepnfekfhppaa
