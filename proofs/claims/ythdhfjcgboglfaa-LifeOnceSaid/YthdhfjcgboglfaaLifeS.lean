/- Layer 19: a book as one thing: Go. -/
import Derived.Test.YthdhfjcgboglfaaLifeR
namespace Go.Proofs.Ythdhfjcgboglfaa
open Go.RowKit
set_option linter.unusedVariables false
set_option maxRecDepth 100000
set_option maxHeartbeats 2000000
/-- What Go tells. -/
def OutP (s : Bk) (u : Int) (out : List Ft) : Prop := if goA s.now u = 0 then ∃ l, LateQ s u l ∧ out = s.un ++ fLate l else out = []
section
variable {w0 w w' : World} {S0 : Nat → Prop} {L X : List Res} {b : Nat} {s : Bk} {u : Int}
theorem bGo_o (H : St w0 S0 w L) (i : Nat) (hi : L[i]? = some (BookR b s)) (hu : 0 ≤ u) (hun : s.un.length ≤ 90000) : Calls Try.prog 17 #[.pointer (some ⟨b, 0, none⟩), .int .u64 u] w fun e w' => ∃ B n d out, e = .returned (.tuple #[.slice B n d, .int .i64 (goA s.now u)]) ∧ OutP s u out ∧ out.length = n ∧ n ≤ 91000 ∧
      St w0 S0 w' (L.set i (BookR b (s.gon u)) ++ [LisR 50 3 (.slice B n d) n (fvs out)]) := by
  refine (St.call_more (α := Option Addr × Nat × Nat × List Ft) (R := BookR b s) (R' := BookR b (s.gon u)) (N := fun x => [LisR 50 3 (.slice x.1 x.2.1 x.2.2.1) x.2.1 (fvs x.2.2.2)]) (Post := fun x e => e = .returned (.tuple #[.slice x.1 x.2.1 x.2.2.1, .int .i64 (goA s.now u)]) ∧ OutP s u x.2.2.2 ∧ x.2.2.2.length = x.2.1 ∧ x.2.1 ≤ 91000) ?_ H i hi).mono fun e w' ⟨⟨A, n, cap, o⟩, ⟨h1, h2, h3, h4⟩, s⟩ => ⟨A, n, cap, o, h1, h2, h3, h4, s⟩
  intro w S h
  obtain ⟨ok, cw, mb, A, cap, hs⟩ := h
  by_cases hg : goA s.now u = 0
  · refine (lGo_yes (St.start hs) ok hu hun hg).mono fun e w' ⟨l, n, B, d, hq, hn, hn9, he, s'⟩ => ⟨(B, n, d, s.un ++ fLate l), ⟨by rw [hg]; exact he, by unfold OutP; rw [if_pos hg]; exact ⟨l, hq, rfl⟩, hn, hn9⟩, ?_⟩
    rw [hq.gon ok hg]
    exact (s'.comm.fold (BookR.ok b (s.go u l)) fun S' h => ⟨hq.ok ok hu, cw, mb, none, 0, h⟩).comm
  · refine (lGo_no (St.start hs) hu hg).mono fun e w' ⟨he, s'⟩ => ⟨(none, 0, 0, []), ⟨he, by unfold OutP; rw [if_neg hg], rfl, by dsimp only; omega⟩, ?_⟩
    have e1 : s.gon u = s := by unfold Bk.gon; rw [if_neg hg]
    rw [e1]
    have s1 := s'.lis_nil 50 3
    exact (s1.comm.fold (BookR.ok b s) fun S' h => ⟨ok, cw, mb, A, cap, h⟩).comm
end
theorem LateQ.uniq {s : Bk} (ok : s.ok) {u : Int} {l l' : List Nat} (h : LateQ s u l) (h' : LateQ s u l') : l = l' := by
  have hp : l.Perm l' := (List.perm_ext_iff_of_nodup h.nd h'.nd).2 fun x => by rw [h.mem, h'.mem]
  have p : ∀ {l}, LateQ s u l → l.Pairwise (ltN s.op) := fun h => List.pairwise_iff_getElem.2 fun i j hi hj hij => h.srt i j _ _ hij (List.getElem?_eq_getElem hi) (List.getElem?_eq_getElem hj)
  exact hp.eq_of_pairwise (fun a b ha hb h1 h2 => by unfold ltN at h1 h2; omega) (p h) (p h')
theorem OutP.uniq {s : Bk} (ok : s.ok) {u : Int} {o o' : List Ft} (h : OutP s u o) (h' : OutP s u o') : o = o' := by
  unfold OutP at h h'
  by_cases hg : goA s.now u = 0
  · rw [if_pos hg] at h h'
    obtain ⟨l, q, rfl⟩ := h
    obtain ⟨l', q', rfl⟩ := h'
    rw [q.uniq ok q']
  · rw [if_neg hg] at h h'; rw [h, h']
end Go.Proofs.Ythdhfjcgboglfaa
