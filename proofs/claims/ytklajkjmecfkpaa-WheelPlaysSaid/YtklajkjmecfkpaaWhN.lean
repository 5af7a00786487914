/- Layer 4: a wheel as one thing among others; two lists of numbers that are the same. -/
import Derived.Test.YtklajkjmecfkpaaWhL
import Derived.Test.YtklajkjmecfkpaaMore
namespace Go.Proofs.Ytklajkjmecfkpaa
open Go.RowKit
set_option linter.unusedVariables false
set_option maxRecDepth 100000
set_option maxHeartbeats 1000000
/-- A wheel as one thing. -/
def WheelR (c : Nat) (now : Int) (T : Int → Option Int) : Res := fun w S => TOK now T ∧ ∃ bw mb, Star (WL 704 c bw now mb T T []) w S
theorem WheelR.ok (c : Nat) (now : Int) (T : Int → Option Int) : Ok (WheelR c now T) :=
  ⟨fun {w S} h => by obtain ⟨_, bw, mb, h⟩ := h; exact (Star.ok _).lt h, fun {w w' S} h hk => by obtain ⟨o, bw, mb, h⟩ := h; exact ⟨o, bw, mb, (Star.ok _).frame h hk⟩⟩
/-- An append behind a guard that holds. -/
theorem wpList_lis_g {w : World} {P : Program} {ops : Array Oper} {rest : List Oper} {o : Oper} {a : Act} {Q : Exit → Act → World → Prop} (hgd : Region.wanted o (yielded ops a.tmps) = true) (s x : Operand) (t : TypeId)
    (ho : o.op = .call { callee := .builtin .append, args := #[s, x], argTypes := #[t, t] })
    (e : TypeId) (i : TypeInfo) (z : Value) (size bytes : Nat) (ht : P.underlying t = some (.slice e)) (hi : P.info? e = some i) (hz : i.zero = some z)
    (hsize : i.size = size) (hby : i.bytes = bytes) (hzs : z.cells.size = size) (hsz : 0 < size) (v : Value) (n : Nat) (xs : List Value) (hs : a.eval s = v) (h : Lis w e size v n xs)
    (A : Option Addr) (m c : Nat) (news : List Value) (hx : a.eval x = .slice A m c) (hr : Rds w A m size news) (h1 : ∀ u ∈ news, u.oneCell' = true) (h63 : n + m ≤ maxLen) (hbytes : (n + m) * bytes ≤ 140737488355328)
    (hK : ∀ B cap w', Lis w' e size (.slice B (n + m) cap) (n + m) (xs ++ news) → w.grownBy w' v.ownBlock → ((Value.slice B (n + m) cap).ownBlock = v.ownBlock ∨ ∃ g, (Value.slice B (n + m) cap).ownBlock = some g ∧ w.heap.size ≤ g) → wpList P ops Q rest (a.put o.dst (.slice B (n + m) cap)) w') : wpList P ops Q (o :: rest) a w :=
  wpList_step fun K hK2 => by
    rw [if_pos hgd]
    obtain ⟨v', w', hrun, h2, h3, h4⟩ := run_lis (P := P) (w := w) t o.type i z bytes ht hi hz hsize hby hzs hsz h A m c news hr h1 h63 hbytes
    unfold Oper.wp execOp
    simp only [ho, resolve, invoke, builtin, Sem.run_bind, Sem.run_pure, Result.andThen_ok, List.map_toArray, List.map_cons, List.map_nil, hs, hx, hrun]
    obtain ⟨B, cap, rfl, _⟩ := h2.shape
    exact hK2 _ _ (hK B cap w' h2 h3 h4)
section
variable {w0 w w' : World} {S0 S : Nat → Prop} {L X : List Res} {c : Nat} {now at' id u : Int} {T : Int → Option Int}
theorem wNew_o (H : St w0 S0 w L) : Calls Try.prog 9 #[] w fun e w' => ∃ c, e = .returned (.pointer (some ⟨c, 0, none⟩)) ∧ St w0 S0 w' (L ++ [WheelR c 0 (fun _ => none)]) :=
  (New_c w).mono fun e w' ⟨c, bw, he, s⟩ => ⟨c, he, by
    obtain ⟨S, hs, hd⟩ := s
    exact H.more hd.to_below (Star.one (WheelR.ok _ _ _) ⟨tok_none, bw, _, hs⟩) fun b hb => (hd.own b hb).resolve_left id⟩
theorem wSet_o (H : St w0 S0 w L) (i : Nat) (hi : L[i]? = some (WheelR c now T)) (ha : 0 ≤ at') : Calls Try.prog 10 #[.pointer (some ⟨c, 0, none⟩), .int .i64 id, .int .u64 at'] w fun e w' => e = .returned (.int .i64 (setA now id at')) ∧ St w0 S0 w' (L.set i (WheelR c now (setT now T id at'))) :=
  St.call (fun w S h => by
    obtain ⟨ok, bw, mb, hs⟩ := h
    exact (Set_c (St.start hs) ok ha).mono fun e w' ⟨he, mb', s'⟩ => ⟨he, s'.fin fun S' h => ⟨setT_ok ok id at', bw, mb', h⟩⟩) (WheelR.ok _ _ _) H i hi
theorem wCancel_o (H : St w0 S0 w L) (i : Nat) (hi : L[i]? = some (WheelR c now T)) (hid : wfI id) : Calls Try.prog 12 #[.pointer (some ⟨c, 0, none⟩), .int .i64 id] w fun e w' => e = .returned (.int .i64 (if (T id).isSome = true then 0 else 6)) ∧ St w0 S0 w' (L.set i (WheelR c now (updT T id none))) :=
  St.call (fun w S h => by
    obtain ⟨ok, bw, mb, hs⟩ := h
    exact (Cancel_c (St.start hs) ok hid).mono fun e w' ⟨he, s'⟩ => ⟨he, s'.fin fun S' h => ⟨ok.del id, bw, mb, h⟩⟩) (WheelR.ok _ _ _) H i hi
theorem wAt_o (H : St w0 S0 w L) (i : Nat) (hi : L[i]? = some (WheelR c now T)) (hid : wfI id) : Calls Try.prog 17 #[.pointer (some ⟨c, 0, none⟩), .int .i64 id] w fun e w' => e = .returned (.tuple #[.int .u64 ((T id).getD 0), .int .i64 (if (T id).isSome = true then 0 else 6)]) ∧ St w0 S0 w' L := by
  have h := St.call (R := WheelR c now T) (R' := WheelR c now T) (fun w S h => by
    obtain ⟨ok, bw, mb, hs⟩ := h
    exact (At_c (St.start hs) hid).mono fun e w' ⟨he, s'⟩ => ⟨he, s'.fin fun S' h => ⟨ok, bw, mb, h⟩⟩) (WheelR.ok _ _ _) H i hi
  rwa [set_same hi] at h
theorem wNow_o (H : St w0 S0 w L) (i : Nat) (hi : L[i]? = some (WheelR c now T)) : Calls Try.prog 19 #[.pointer (some ⟨c, 0, none⟩)] w fun e w' => e = .returned (.int .u64 now) ∧ St w0 S0 w' L := by
  have h := St.call (R := WheelR c now T) (R' := WheelR c now T) (fun w S h => by
    obtain ⟨ok, bw, mb, hs⟩ := h
    exact (Now_c (St.start hs)).mono fun e w' ⟨he, s'⟩ => ⟨he, s'.fin fun S' h => ⟨ok, bw, mb, h⟩⟩) (WheelR.ok _ _ _) H i hi
  rwa [set_same hi] at h
theorem wLen_o (H : St w0 S0 w L) (i : Nat) (hi : L[i]? = some (WheelR c now T)) : Calls Try.prog 20 #[.pointer (some ⟨c, 0, none⟩)] w fun e w' => e = .returned (.int .i64 (cnt T)) ∧ St w0 S0 w' L := by
  have h := St.call (R := WheelR c now T) (R' := WheelR c now T) (fun w S h => by
    obtain ⟨ok, bw, mb, hs⟩ := h
    exact (Len_c (St.start hs)).mono fun e w' ⟨he, s'⟩ => ⟨he, s'.fin fun S' h => ⟨ok, bw, mb, h⟩⟩) (WheelR.ok _ _ _) H i hi
  rwa [set_same hi] at h
theorem wGo_o (H : St w0 S0 w L) (i : Nat) (hi : L[i]? = some (WheelR c now T)) (hu : 0 ≤ u) : Calls Try.prog 14 #[.pointer (some ⟨c, 0, none⟩), .int .u64 u] w fun e w' => ∃ A n cap o, e = .returned (.tuple #[.slice A n cap, .int .i64 (goA now u)]) ∧ GoP now T u o ∧ o.length = n ∧ n ≤ 1000 ∧
      St w0 S0 w' (L.set i (WheelR c (goN now u) (goT now T u)) ++ [LisR 3 1 (.slice A n cap) n (iv o)]) := by
  refine (St.call_more (α := Option Addr × Nat × Nat × List Int) (R := WheelR c now T) (R' := WheelR c (goN now u) (goT now T u)) (N := fun x => [LisR 3 1 (.slice x.1 x.2.1 x.2.2.1) x.2.1 (iv x.2.2.2)]) (Post := fun x e => e = .returned (.tuple #[.slice x.1 x.2.1 x.2.2.1, .int .i64 (goA now u)]) ∧ GoP now T u x.2.2.2 ∧ x.2.2.2.length = x.2.1 ∧ x.2.1 ≤ 1000) ?_ H i hi).mono fun e w' ⟨⟨A, n, cap, o⟩, ⟨h1, h2, h3, h4⟩, s⟩ => ⟨A, n, cap, o, h1, h2, h3, h4, s⟩
  intro w S h
  obtain ⟨ok, bw, mb, hs⟩ := h
  refine (Go_c (St.start hs) ok hu).mono fun e w' ⟨A, n, cap, o, mb', he, hp, hn, s'⟩ => ⟨(A, n, cap, o), ⟨he, hp, hn, by dsimp only; rw [← hn]; exact hp.len ok⟩, ?_⟩
  rw [← wl_app] at s'
  exact (s'.comm.fold (WheelR.ok c (goN now u) (goT now T u)) fun S' h => ⟨goT_ok ok, bw, mb', h⟩).comm
/-- Of two lists of the same numbers: they are. -/
theorem Ints_w {A B : Option Addr} {m c c' : Nat} {l : List Int} (hA : Lis w 3 1 (.slice A m c) m (iv l)) (hB : Lis w 3 1 (.slice B m c') m (iv l)) :
    Calls Try.prog 16 #[.slice A m c, .slice B m c'] w fun e w' => e = .returned (.bool true) ∧ Below w.heap.size w w' := by
  have HA := Lib.hid hA
  have HB := Lib.hid hB
  have hmx : m ≤ maxLen := by obtain ⟨_, _, _, h1, h2⟩ := hA.shape; omega
  have hlen : l.length = m := by have := hA.1; unfold iv at this; rw [List.length_map] at this; omega
  have HL := Lib.hid hlen
  unfold maxLen at hmx
  clear hA hB hlen
  go_enter Try.func16, Try.ntmps16
  go_wp2_with fail
  go_loopw [5] (fun x wr => ∃ k : Nat, k ≤ m ∧ x = .int .i64 (k : Int) ∧ Below w.heap.size w wr) (fun x _ => m - (intOf x).toNat)
  case atStart => exact ⟨0, by omega, rfl, Below.refl _ _⟩
  case round =>
    obtain ⟨k, hk, rfl, hbl⟩ := hrel
    by_cases hlt : k < m
    · obtain ⟨x, hx⟩ : ∃ x, l[k]? = some x := ⟨l[k]'(by have := HL.out; omega), List.getElem?_eq_getElem _⟩
      have la := HA.out.keep (w' := wr) fun g hg => hbl.block g (HA.out.lt hg)
      have lb := HB.out.keep (w' := wr) fun g hg => hbl.block g (HB.out.lt hg)
      obtain ⟨b, off, rfl, hc⟩ := la.reads.2.resolve_left (by omega)
      obtain ⟨b', off', rfl, hc'⟩ := lb.reads.2.resolve_left (by omega)
      have e1 := hc k _ (iv_get hx)
      have e2 := hc' k _ (iv_get hx)
      have u0 : (0 : Int) ≤ (k : Int) := by omega
      have u1 : (k : Int) < (m : Int) := by omega
      clear hx la lb hc hc'
      go_wp2_with fail
      go_quiet (fail)
      go_wp2_with fail
      go_roundw
      case rel => exact ⟨k + 1, by omega, by go_num, below_drewN hbl _⟩
      case measure => simp [intOf]; omega
    · obtain rfl : k = m := by omega
      go_wp2_with fail
      go_ret
      exact ⟨rfl, hbl⟩
end
end Go.Proofs.Ytklajkjmecfkpaa
