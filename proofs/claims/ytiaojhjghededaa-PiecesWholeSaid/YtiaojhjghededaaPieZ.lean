/- Layer 8: a list of one whole buffer. -/
import Derived.Test.YtiaojhjghededaaPieY
namespace Go.Proofs.Ytiaojhjghededaa
open Go.RowKit
set_option linter.unusedVariables false
set_option maxRecDepth 100000
set_option maxHeartbeats 1600000
/-- A pool of one buffer, which was got. -/
def w1 (n : Nat) : Nat → Buf := updB (fresh [n]) 0 (got (fresh [n] 0))
theorem w1_0 (n : Nat) : w1 n 0 = ⟨1, 1, 1, List.replicate n 0⟩ := by
  unfold w1
  rw [updB_self]
  simp [got, fresh]
theorem w0_ok {n : Nat} (h : n ≤ 100) : POK 1 (fresh [n]) 2 := ⟨by omega, by omega, by omega, fun i hi => by
  obtain rfl : i = 0 := by omega
  refine ⟨⟨?_, ?_⟩, ⟨?_, ?_⟩, ⟨?_, ?_⟩, ?_⟩ <;> simp [fresh]
  omega⟩
theorem w1_ok {n : Nat} (h : n ≤ 100) : POK 1 (w1 n) 2 := ⟨by omega, by omega, by omega, fun i hi => by
  obtain rfl : i = 0 := by omega
  rw [w1_0]
  refine ⟨⟨?_, ?_⟩, ⟨?_, ?_⟩, ⟨?_, ?_⟩, ?_⟩ <;> simp
  omega⟩
theorem w1_get {n : Nat} (h1 : 1 ≤ n) : GetP 1 (fresh [n]) (n : Int) 0 1 0 (w1 n) :=
  Or.inr (Or.inr ⟨⟨by omega, by simp [fresh]⟩, 0, by omega, fun j hj => absurd hj (by omega), ⟨rfl, by simp [fresh]⟩, rfl, rfl, rfl, rfl⟩)
def qW (n : Nat) : Pc := ⟨0, 1, 0, (n : Int)⟩
theorem sz_of {st : Nat → Buf} {n : Nat} (h1 : (st 0).owner = 1) (h2 : (st 0).gen = 1) (h3 : (st 0).bs.length = n) : szB 1 st 0 1 = some n := by
  unfold szB
  rw [if_pos ⟨by omega, by omega, by show (st 0).owner ≠ 0; omega, h2⟩]
  exact congrArg some h3
theorem fit_of {st : Nat → Buf} {n : Nat} (h1 : (st 0).owner = 1) (h2 : (st 0).gen = 1) (h3 : (st 0).bs.length = n) (f m : Int) : fitP 1 st ⟨0, 1, f, m⟩ = decide (0 ≤ f ∧ f ≤ n ∧ 1 ≤ m ∧ m ≤ n - f) := by
  unfold fitP
  dsimp only
  rw [sz_of h1 h2 h3]
theorem may_q {st : Nat → Buf} {n : Nat} (h0 : 1 ≤ n) (h1 : (st 0).owner = 1) (h2 : (st 0).gen = 1) (h3 : (st 0).bs.length = n) :
    mayL 1 st [qW n] = true ∧ mayL 1 st [⟨0, 1, 0, (n : Int) + 1⟩] = false ∧ mayL 1 st [⟨0, 1, 1, (n : Int)⟩] = false ∧ mayL 1 st [qW n, qW n] = false := by
  refine ⟨?_, ?_, ?_, ?_⟩
  · unfold mayL mayG mayG qW
    rw [fit_of h1 h2 h3, decide_eq_true (p := _ ∧ _ ∧ _ ∧ _) (by omega)]
    rfl
  · unfold mayL mayG
    rw [fit_of h1 h2 h3, decide_eq_false (p := _ ∧ _ ∧ _ ∧ _) (by omega)]
    rfl
  · unfold mayL mayG
    rw [fit_of h1 h2 h3, decide_eq_false (p := _ ∧ _ ∧ _ ∧ _) (by omega)]
    rfl
  · unfold mayL mayG mayG mayG qW
    have : meetP ⟨0, 1, 0, (n : Int)⟩ ⟨0, 1, 0, (n : Int)⟩ = true := by unfold meetP; exact decide_eq_true ⟨rfl, rfl, by dsimp only; omega, by dsimp only; omega⟩
    simp [this]
theorem own_q {st : Nat → Buf} {n : Nat} (h1 : (st 0).owner = 1) (h2 : (st 0).gen = 1) : ownsP 1 st 1 (bufsP [qW n]) = true := by
  have : bufsP [qW n] = [(0, 1)] := rfl
  rw [this]
  unfold ownsP
  rw [List.all_cons, List.all_nil, Bool.and_true, beq_iff_eq]
  exact (ownV_live (i := 0) (by omega) rfl (by omega) h2).trans h1
theorem wf_q {n : Nat} (h : n ≤ 1000) : (qW n).wf := by unfold Pc.wf qW; dsimp only; omega
theorem rdp_lis {w : World} {A : Option Addr} {e : TypeId} {n c : Nat} {ps : List Pc} (h : Lis w e 4 (.slice A n c) n (pcl ps)) : RdP w A ps := fun i p hp => by
  have hlen := h.1
  obtain ⟨h1, h2, h3, h4⟩ := pcl_get ps i p hp
  rcases h.2 with ⟨_, rfl⟩ | ⟨g, off, cap, arr, hv, hh, hn, hm, hs, hx⟩
  · have h0 := (List.getElem?_eq_some_iff.1 h1).1
    omega
  · injection hv with hA
    have hb : g < w.heap.size := by
      rcases Nat.lt_or_ge g w.heap.size with hlt | hge
      · exact hlt
      · rw [Array.getElem?_eq_none hge] at hh; cases hh
    refine ⟨g, off, hA, hb, ?_, ?_, ?_, ?_⟩
    · have := hx _ _ h1; simpa [World.cell?, hh] using this
    · have := hx _ _ h2; rw [← Nat.add_assoc] at this; simpa [World.cell?, hh] using this
    · have := hx _ _ h3; rw [← Nat.add_assoc] at this; simpa [World.cell?, hh] using this
    · have := hx _ _ h4; rw [← Nat.add_assoc] at this; simpa [World.cell?, hh] using this
theorem YtiaojhjghededaaiPc : (Try.prog.info? 42).map (fun i => (i.zero, i.size, i.bytes)) = some (some (.agg #[.int .i64 0, .int .u64 0, .int .i64 0, .int .i64 0]), 4, 32) := by kernel_rfl
/-- Whether a list that was just made may be. -/
theorem may_new {w0 w v : World} {S0 : Nat → Prop} {N : List Res} {p n : Nat} {st : Nat → Buf} {G : Int} (H : St w0 S0 w ([PoolR p n st] ++ N)) (hv : Below w.heap.size w v) (ok : POK n st G) {g off cap : Nat} (hg : w.heap.size ≤ g) (ps : List Pc) (hlen : ps.length ≤ cap) (hcap : cap ≤ maxLen) (hR : RdP v (some ⟨g, off, none⟩) ps) :
    Calls Try.prog 9 #[.pointer (some ⟨p, 0, none⟩), .slice (some ⟨g, off, none⟩) ps.length cap] v fun e w' => e = .returned (.bool (mayL n st ps)) ∧ St w0 S0 w' ([PoolR p n st] ++ N) := by
  obtain ⟨S, t, tl, -, tb⟩ := H.rebase hv
  refine (may_o8 t 0 rfl ok (some ⟨g, off, none⟩) cap ps hlen hcap hR (fun g' o e hS => ?_)).mono fun e w' h => ⟨h.1, tb _ _ h.2⟩
  injection e with e
  injection e with e
  have := (tl _ hS).1
  omega
/-- Whether a list among what else there is may be. -/
theorem may_lis {w0 w : World} {S0 : Nat → Prop} {N : List Res} {p n : Nat} {st : Nat → Buf} {G : Int} (H : St w0 S0 w ([PoolR p n st] ++ N)) (ok : POK n st G) {A : Option Addr} {cap : Nat} (ps : List Pc) (j : Nat) (hj : N[j]? = some (LisR 42 4 (.slice A ps.length cap) ps.length (pcl ps))) :
    Calls Try.prog 9 #[.pointer (some ⟨p, 0, none⟩), .slice A ps.length cap] w fun e w' => e = .returned (.bool (mayL n st ps)) ∧ St w0 S0 w' ([PoolR p n st] ++ N) := by
  obtain ⟨S, t, tl, tn, tb⟩ := H.rebase (Below.refl _ _)
  obtain ⟨T, hT, hd⟩ := tn j _ hj
  obtain ⟨A', cap', e, h1, h2⟩ := hT.1.shape
  injection e with e1 _ e2
  subst e1 e2
  refine (may_o8 t 0 rfl ok A cap ps h1 h2 (rdp_lis hT.1) (fun g o e hS => hd g ((hT.2 g).2 (by rw [e]; rfl)) hS)).mono fun e w' h => ⟨h.1, tb _ _ h.2⟩
/-- An append behind a guard that holds, as a step of a region that draws its order. -/
theorem step_lis_g {P : Program} {w : World} {e : TypeId} {size : Nat} {ops : Array Oper} {o : Oper} {a : Act} {K : Act → World → Prop} {Q : Exit → Act → World → Prop} {E : Prop} (hw : Region.wanted o (yielded ops a.tmps) = true) (s x : Operand) (t : TypeId)
    (ho : o.op = .call { callee := .builtin .append, args := #[s, x], argTypes := #[t, t] })
    (i : TypeInfo) (z : Value) (bytes : Nat) (ht : P.underlying t = some (.slice e)) (hi : P.info? e = some i) (hz : i.zero = some z)
    (hsize : i.size = size) (hby : i.bytes = bytes) (hzs : z.cells.size = size) (hsz : 0 < size) (v : Value) (n : Nat) (xs : List Value) (hs : a.eval s = v) (h : Lis w e size v n xs)
    (A : Option Addr) (m c : Nat) (news : List Value) (hx : a.eval x = .slice A m c) (hr : Rds w A m size news) (h1 : ∀ u ∈ news, u.oneCell' = true) (h63 : n + m ≤ maxLen) (hbytes : (n + m) * bytes ≤ 140737488355328)
    (hK : ∀ B cap w', Lis w' e size (.slice B (n + m) cap) (n + m) (xs ++ news) → w.grownBy w' v.ownBlock → ((Value.slice B (n + m) cap).ownBlock = v.ownBlock ∨ ∃ g, (Value.slice B (n + m) cap).ownBlock = some g ∧ w.heap.size ≤ g) → K (a.put o.dst (.slice B (n + m) cap)) w') :
    if Region.wanted o (yielded ops a.tmps) = true then Oper.wp P o a w K Q else E := by
  rw [if_pos hw]
  obtain ⟨v', w', hrun, h2, h3, h4⟩ := run_lis (P := P) (w := w) t o.type i z bytes ht hi hz hsize hby hzs hsz h A m c news hr h1 h63 hbytes
  unfold Oper.wp execOp
  simp only [ho, resolve, invoke, builtin, Sem.run_bind, Sem.run_pure, Result.andThen_ok, List.map_toArray, List.map_cons, List.map_nil, hs, hx, hrun]
  obtain ⟨B, cap, rfl, _⟩ := h2.shape
  exact hK B cap w' h2 h3 h4
theorem rds_pcl {w : World} {e : TypeId} {q : Pc} : Rds (w.alloc (.cells #[.int .i64 q.s, .int .u64 q.g, .int .i64 q.f, .int .i64 q.m] e)) (some ⟨w.heap.size, 0, none⟩) 1 4 (pcl [q]) := by
  refine ⟨rfl, Or.inr ⟨_, _, rfl, fun j u hu => ?_⟩⟩
  rw [Nat.zero_add, (Blk.new w e #[.int .i64 q.s, .int .u64 q.g, .int .i64 q.f, .int .i64 q.m]).cell]
  have hu : [Value.int .i64 q.s, .int .u64 q.g, .int .i64 q.f, .int .i64 q.m][j]? = some u := hu
  simpa using hu
end Go.Proofs.Ytiaojhjghededaa
