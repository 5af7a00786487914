/- Layer 4: a wheel as one thing among others; two lists of numbers that are the same. -/
import Derived.Test.YthdhfjcgboglfaaWhL
import Derived.Test.YthdhfjcgboglfaaMore
namespace Go.Proofs.Ythdhfjcgboglfaa
open Go.RowKit
set_option linter.unusedVariables false
set_option maxRecDepth 100000
set_option maxHeartbeats 1000000
/-- A wheel as one thing. -/
def WheelR (c : Nat) (now : Int) (T : Int → Option Int) : Res := fun w S => TOK now T ∧ ∃ bw mb, Star (WL 704 c bw now mb T T []) w S
theorem WheelR.ok (c : Nat) (now : Int) (T : Int → Option Int) : Ok (WheelR c now T) :=
  ⟨fun {w S} h => by obtain ⟨_, bw, mb, h⟩ := h; exact (Star.ok _).lt h, fun {w w' S} h hk => by obtain ⟨o, bw, mb, h⟩ := h; exact ⟨o, bw, mb, (Star.ok _).frame h hk⟩⟩
/-- An append behind a guard that holds. -/
theorem wpList_lis_g {w : World} {P : Program} {ops : Array Oper} {rest : List Oper} {o : Oper} {a : Act} {Q : Exit → Act → World → Prop} (hgd : Region.wanted o (yielded ops a.tmps) = true) (s x : Operand) (t : TypeId)
    (ho : o.op = .call { callee := .builtin .append, args := #[s, x], argTypes := #[t, t] })
    (e : TypeId) (i : TypeInfo) (z : Value) (size bytes : Nat) (ht : P.underlying t = some (.slice e)) (hi : P.info? e = some i) (hz : i.zero = some z)
    (hsize : i.size = size) (hby : i.bytes = bytes) (hzs : z.cells.size = size) (hsz : 0 < size) (v : Value) (n : Nat) (xs : List Value) (hs : a.eval s = v) (h : Lis w e size v n xs)
    (A : Option Addr) (m c : Nat) (news : List Value) (hx : a.eval x = .slice A m c) (hr : Rds w A m size news) (h1 : ∀ u ∈ news, u.oneCell' = true) (h63 : n + m ≤ maxLen) (hbytes : (n + m) * bytes ≤ 140737488355328)
    (hK : ∀ B cap w', Lis w' e size (.slice B (n + m) cap) (n + m) (xs ++ news) → w.grownBy w' v.ownBlock → ((Value.slice B (n + m) cap).ownBlock = v.ownBlock ∨ ∃ g, (Value.slice B (n + m) cap).ownBlock = some g ∧ w.heap.size ≤ g) → wpList P ops Q rest (a.put o.dst (.slice B (n + m) cap)) w') : wpList P ops Q (o :: rest) a w :=
  wpList_step fun K hK2 => by
    rw [if_pos hgd]
    obtain ⟨v', w', hrun, h2, h3, h4⟩ := run_lis (P := P) (w := w) t o.type i z bytes ht hi hz hsize hby hzs hsz h A m c news hr h1 h63 hbytes
    unfold Oper.wp execOp
    simp only [ho, resolve, invoke, builtin, Sem.run_bind, Sem.run_pure, Result.andThen_ok, List.map_toArray, List.map_cons, List.map_nil, hs, hx, hrun]
    obtain ⟨B, cap, rfl, _⟩ := h2.shape
    exact hK2 _ _ (hK B cap w' h2 h3 h4)
section
variable {w0 w w' : World} {S0 S : Nat → Prop} {L X : List Res} {c : Nat} {now at' id u : Int} {T : Int → Option Int}
theorem wNew_o (H : St w0 S0 w L) : Calls Try.prog 22 #[] w fun e w' => ∃ c, e = .returned (.pointer (some ⟨c, 0, none⟩)) ∧ St w0 S0 w' (L ++ [WheelR c 0 (fun _ => none)]) :=
  (New_c w).mono fun e w' ⟨c, bw, he, s⟩ => ⟨c, he, by
    obtain ⟨S, hs, hd⟩ := s
    exact H.more hd.to_below (Star.one (WheelR.ok _ _ _) ⟨tok_none, bw, _, hs⟩) fun b hb => (hd.own b hb).resolve_left id⟩
theorem wSet_o (H : St w0 S0 w L) (i : Nat) (hi : L[i]? = some (WheelR c now T)) (ha : 0 ≤ at') : Calls Try.prog 27 #[.pointer (some ⟨c, 0, none⟩), .int .i64 id, .int .u64 at'] w fun e w' => e = .returned (.int .i64 (setA now id at')) ∧ St w0 S0 w' (L.set i (WheelR c now (setT now T id at'))) :=
  St.call (fun w S h => by
    obtain ⟨ok, bw, mb, hs⟩ := h
    exact (Set_c (St.start hs) ok ha).mono fun e w' ⟨he, mb', s'⟩ => ⟨he, s'.fin fun S' h => ⟨setT_ok ok id at', bw, mb', h⟩⟩) (WheelR.ok _ _ _) H i hi
theorem wCancel_o (H : St w0 S0 w L) (i : Nat) (hi : L[i]? = some (WheelR c now T)) (hid : wfI id) : Calls Try.prog 34 #[.pointer (some ⟨c, 0, none⟩), .int .i64 id] w fun e w' => e = .returned (.int .i64 (if (T id).isSome = true then 0 else 6)) ∧ St w0 S0 w' (L.set i (WheelR c now (updT T id none))) :=
  St.call (fun w S h => by
    obtain ⟨ok, bw, mb, hs⟩ := h
    exact (Cancel_c (St.start hs) ok hid).mono fun e w' ⟨he, s'⟩ => ⟨he, s'.fin fun S' h => ⟨ok.del id, bw, mb, h⟩⟩) (WheelR.ok _ _ _) H i hi
theorem wNow_o (H : St w0 S0 w L) (i : Nat) (hi : L[i]? = some (WheelR c now T)) : Calls Try.prog 25 #[.pointer (some ⟨c, 0, none⟩)] w fun e w' => e = .returned (.int .u64 now) ∧ St w0 S0 w' L := by
  have h := St.call (R := WheelR c now T) (R' := WheelR c now T) (fun w S h => by
    obtain ⟨ok, bw, mb, hs⟩ := h
    exact (Now_c (St.start hs)).mono fun e w' ⟨he, s'⟩ => ⟨he, s'.fin fun S' h => ⟨ok, bw, mb, h⟩⟩) (WheelR.ok _ _ _) H i hi
  rwa [set_same hi] at h
theorem wGo_o (H : St w0 S0 w L) (i : Nat) (hi : L[i]? = some (WheelR c now T)) (hu : 0 ≤ u) : Calls Try.prog 31 #[.pointer (some ⟨c, 0, none⟩), .int .u64 u] w fun e w' => ∃ A n cap o, e = .returned (.tuple #[.slice A n cap, .int .i64 (goA now u)]) ∧ GoP now T u o ∧ o.length = n ∧ n ≤ 1000 ∧
      St w0 S0 w' (L.set i (WheelR c (goN now u) (goT now T u)) ++ [LisR 3 1 (.slice A n cap) n (iv o)]) := by
  refine (St.call_more (α := Option Addr × Nat × Nat × List Int) (R := WheelR c now T) (R' := WheelR c (goN now u) (goT now T u)) (N := fun x => [LisR 3 1 (.slice x.1 x.2.1 x.2.2.1) x.2.1 (iv x.2.2.2)]) (Post := fun x e => e = .returned (.tuple #[.slice x.1 x.2.1 x.2.2.1, .int .i64 (goA now u)]) ∧ GoP now T u x.2.2.2 ∧ x.2.2.2.length = x.2.1 ∧ x.2.1 ≤ 1000) ?_ H i hi).mono fun e w' ⟨⟨A, n, cap, o⟩, ⟨h1, h2, h3, h4⟩, s⟩ => ⟨A, n, cap, o, h1, h2, h3, h4, s⟩
  intro w S h
  obtain ⟨ok, bw, mb, hs⟩ := h
  refine (Go_c (St.start hs) ok hu).mono fun e w' ⟨A, n, cap, o, mb', he, hp, hn, s'⟩ => ⟨(A, n, cap, o), ⟨he, hp, hn, by dsimp only; rw [← hn]; exact hp.len ok⟩, ?_⟩
  rw [← wl_app] at s'
  exact (s'.comm.fold (WheelR.ok c (goN now u) (goT now T u)) fun S' h => ⟨goT_ok ok, bw, mb', h⟩).comm
end
end Go.Proofs.Ythdhfjcgboglfaa
