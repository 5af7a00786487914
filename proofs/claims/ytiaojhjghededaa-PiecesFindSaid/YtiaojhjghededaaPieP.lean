/- Layer 8: pieces one by one: the iterator's contract. -/
import Derived.Test.YtiaojhjghededaaPieM
import Derived.Test.YtiaojhjghededaaRfn
import Derived.RangeFuncBox
import Derived.Shelf.Abstract
import Derived.Shelf.RegionOpen
import Derived.WalkKit
import Derived.OwnWalkIn
import Derived.TacticsInMore
import Derived.LoopNIn
import Derived.LoopIn
namespace Go.Proofs.Ytiaojhjghededaa
open Go.RowKit Go.Shelf
set_option linter.unusedVariables false
set_option maxRecDepth 100000
set_option maxHeartbeats 4000000
attribute [local go_sem] Oper.semAt_some
/-- How many bytes are ahead of each piece. -/
def begP (ps : List Pc) : Nat → Int
  | 0 => 0
  | k + 1 => wrap64 (begP ps k + if (ps.getD k ⟨0, 0, 0, 0⟩).m < 0 then 0 else (ps.getD k ⟨0, 0, 0, 0⟩).m)
/-- What has come when k rounds are over. -/
def comeP (ps : List Pc) (k : Nat) : List (Int × Pc) := (List.range k).map fun j => (begP ps j, ps.getD j ⟨0, 0, 0, 0⟩)
theorem comeP_succ (ps : List Pc) (k : Nat) : comeP ps (k + 1) = comeP ps k ++ [(begP ps k, ps.getD k ⟨0, 0, 0, 0⟩)] := by simp [comeP, List.range_succ]
theorem comeP_len (ps : List Pc) (k : Nat) : (comeP ps k).length = k := by simp [comeP]
def encP (x : Int × Pc) : Array Value := #[.int .i64 x.1, .agg #[.int .i64 x.2.s, .int .u64 x.2.g, .int .i64 x.2.f, .int .i64 x.2.m]]
theorem parts_o (A : Option Addr) (m cap : Nat) (w : World) : Calls Try.prog 26 #[.slice A m cap] w fun e w' => e = .returned (.func (.func 37) #[] #[.pointer (some ⟨w.heap.size, 0, none⟩)]) ∧ w' = w.alloc (.cells #[.slice A m cap] 22) := by
  go_enter Try.func26, Try.ntmps26
  go_wp2
  go_ret
  exact ⟨rfl, rfl⟩
theorem parts1_in (F : Fence) (n : Nat) (hf : F.fn 37) (hro : F.round = none) (hn : 1 ≤ n) (l Bs cap : Nat) (A : Option Addr) (ps : List Pc) (hlen : ps.length ≤ 1000000) (hwf : ∀ p ∈ ps, p.wf) (K : Nat → Prop) (hK : ps ≠ [] → ∀ g o, A = some ⟨g, o, none⟩ → K g) (J Jx : List (Int × Pc) → World → Prop) (B : Nat) (hJ : AbidesFrom B J)
    (hY : ∀ pre x W, J pre W → pre.length < ps.length → x ∈ comeP ps ps.length → YieldAt F (n - 1) Try.prog l (encP x) W fun e W' =>
      (e = .returned (.bool true) ∧ J (pre ++ [x]) W' ∧ KpB 42 K W W') ∨ (e = .returned (.bool false) ∧ Jx (pre ++ [x]) W'))
    (W : World) (hKs : ∀ b, K b → b < W.heap.size) (hBs : W.cell? ⟨Bs, 0, none⟩ = some (.slice A ps.length cap)) (hR : RdP W A ps) (h0 : J [] W) :
    CallsIn F n Try.prog 37 #[.func (.yield l) #[] #[], .pointer (some ⟨Bs, 0, none⟩)] W fun e W' => (∃ v, e = .returned v) ∧
      ((∃ ys, ys = comeP ps ps.length ∧ J ys W') ∨ (∃ pre, (∃ k, k ≤ ps.length ∧ pre = comeP ps k) ∧ Jx pre W')) := by
  have HJ := Lib.hid hJ
  have HKs := Lib.hid hKs
  have HR := Lib.hid hR
  have HY := Lib.hid hY
  have HWF := Lib.hid hwf
  have HKK := Lib.hid hK
  clear hJ hKs hR hY hwf hK
  refine callsIn_of_wp Try.func37 rfl hf ?_ hro
  simp only [Try.ntmps37, List.size_toArray, List.length_cons, List.length_nil, Nat.reduceAdd, Nat.reduceSub, Array.replicate_succ, Array.replicate_zero, List.push_toArray, List.append_toArray, List.nil_append, List.cons_append]
  gi_wp2
  gi_loopw [3, 5, 8] (fun x3 _ x8 wr => ∃ k : Nat, k ≤ ps.length ∧ x3 = .int .i64 (begP ps k) ∧ x8 = .int .i64 (k : Int) ∧ J (comeP ps k) wr ∧ KpB 42 K W wr)
    (fun _ _ x8 _ => ps.length - (intOf x8).toNat)
  case atStart => exact ⟨0, Nat.zero_le _, rfl, rfl, h0, KpB.refl _ _ _⟩
  case round =>
    obtain ⟨k, hk, rfl, rfl, hJs, hkp⟩ := hrel
    by_cases hlt : k < ps.length
    · obtain ⟨p, hp⟩ : ∃ p, ps[k]? = some p := ⟨ps[k]'hlt, List.getElem?_eq_getElem hlt⟩
      have hpd : ps.getD k ⟨0, 0, 0, 0⟩ = p := by rw [List.getD_eq_getElem?_getD, hp]; rfl
      obtain ⟨g, off, hA, hg, d0, d1, d2, d3⟩ := (HR.out.same hkp.1 (fun g o e => hkp.2.1 g (HKK.out (fun h => by rw [h] at hlt; exact absurd hlt (Nat.not_lt_zero _)) g o e))) k p hp
      subst hA
      have z0 : decide ((k : Int) < (ps.length : Int)) = true := decide_eq_true (by omega)
      have e1 : comeP ps (k + 1) = comeP ps k ++ [(begP ps k, p)] := by rw [comeP_succ, hpd]
      have e2 : begP ps (k + 1) = wrap64 (begP ps k + if p.m < 0 then 0 else p.m) := by show wrap64 (begP ps k + if (ps.getD k ⟨0, 0, 0, 0⟩).m < 0 then 0 else (ps.getD k ⟨0, 0, 0, 0⟩).m) = _; rw [hpd]
      have E1 := Lib.hid e1
      have E2 := Lib.hid e2
      have HPD := Lib.hid hpd
      clear e1 e2 hpd
      have hJ2 : J (comeP ps k) (wr.alloc (.cells #[.int .i64 p.s, .int .u64 p.g, .int .i64 p.f, .int .i64 p.m] 42)) := HJ.out _ _ _ none hJs (World.grownBy_alloc _ _ none) (fun r e => by cases e)
      have hkp2 : KpB 42 K W (wr.alloc (.cells #[.int .i64 p.s, .int .u64 p.g, .int .i64 p.f, .int .i64 p.m] 42)) := hkp.trans (KpB.below ((Below.refl _ _).alloc (Nat.le_refl _) _) (fun b hb => Nat.lt_of_lt_of_le (HKs.out b hb) hkp.1))
      obtain ⟨fn, tmps, assign, body, hy, hR⟩ := HY.out _ (begP ps k, p) _ hJ2 (by rw [comeP_len]; exact hlt) (List.mem_map.2 ⟨k, List.mem_range.2 hlt, by rw [HPD.out]⟩)
      unfold encP at hy
      dsimp only at hy
      have HN := Lib.hid (World.alloc_heap_new wr (.cells #[.int .i64 p.s, .int .u64 p.g, .int .i64 p.f, .int .i64 p.m] 42))
      have HKP := Lib.hid hkp2
      have HRD := Lib.hid hR
      clear hkp hkp2 hJ2 hJs hR
      gi_wp2
      refine HRD.out.mono ?_
      rintro e W3 (⟨rfl, hJ3, hk3⟩ | ⟨rfl, hJx3⟩)
      · have h3 := hk3.2.2 _ _ _ HN.out
        have c2 : W3.cell? ⟨wr.heap.size, 2, none⟩ = some (.int .i64 p.f) := by simp [World.cell?, h3]
        have c3 : W3.cell? ⟨wr.heap.size, 3, none⟩ = some (.int .i64 p.m) := by simp [World.cell?, h3]
        have HK3 := Lib.hid (HKP.out.trans hk3)
        have HJ3 := Lib.hid hJ3
        clear h3 hk3 hJ3
        gi_wp2
        go_roundw
        case rel => exact ⟨k + 1, by omega, by rw [E2.out], by go_num, by rw [E1.out]; exact HJ3.out, HK3.out⟩
        case measure => simp [intOf]; omega
      · gi_wp2
        refine bodyPost_ret (results_none rfl _ _ _) rfl ?_
        exact ⟨⟨_, rfl⟩, .inr ⟨_, ⟨k + 1, by omega, E1.out.symm⟩, hJx3⟩⟩
    · obtain rfl : k = ps.length := by omega
      have z0 : decide ((ps.length : Int) < (ps.length : Int)) = false := decide_eq_false (by omega)
      gi_wp2
      go_end0
      exact ⟨⟨_, rfl⟩, .inl ⟨_, rfl, hJs⟩⟩
/-- parts(l) hands back a value that tells all pieces in order, or some of them. -/
theorem parts_stops (F : Fence) (n : Nat) (hf : F.fn 37) (hro : F.round = none) (hn : 1 ≤ n) (Bs cap : Nat) (A : Option Addr) (ps : List Pc) (hlen : ps.length ≤ 1000000) (hwf : ∀ p ∈ ps, p.wf) (K : Nat → Prop) (hK : ps ≠ [] → ∀ g o, A = some ⟨g, o, none⟩ → K g) (w : World) (hKs : ∀ b, K b → b < w.heap.size) (hBl : Bs < w.heap.size) (hBs : w.cell? ⟨Bs, 0, none⟩ = some (.slice A ps.length cap)) (hR : RdP w A ps) :
    SeqStopsK F n Try.prog 37 #[.pointer (some ⟨Bs, 0, none⟩)] encP (KpB 42 K) (fun ys => ys = comeP ps ps.length) (fun pre => ∃ k, k ≤ ps.length ∧ pre = comeP ps k) ps.length w := fun l J Jx W hW hJ _ hY h0 =>
  parts1_in F n hf hro hn l Bs cap A ps hlen hwf K hK J Jx W.heap.size hJ (fun pre x W h1 h2 _ => hY pre x W h1 h2) W (fun b hb => Nat.lt_of_lt_of_le (hKs b hb) hW.size) ((hW.cell (p := ⟨Bs, 0, none⟩) hBl).trans hBs) (hR.on hW) h0
/-- Only pieces of the list come. -/
abbrev Coming (ps : List Pc) := { x : Int × Pc // x ∈ comeP ps ps.length }
theorem parts_stopsM (F : Fence) (n : Nat) (hf : F.fn 37) (hro : F.round = none) (hn : 1 ≤ n) (Bs cap : Nat) (A : Option Addr) (ps : List Pc) (hlen : ps.length ≤ 1000000) (hwf : ∀ p ∈ ps, p.wf) (K : Nat → Prop) (hK : ps ≠ [] → ∀ g o, A = some ⟨g, o, none⟩ → K g) (w : World) (hKs : ∀ b, K b → b < w.heap.size) (hBl : Bs < w.heap.size) (hBs : w.cell? ⟨Bs, 0, none⟩ = some (.slice A ps.length cap)) (hR : RdP w A ps) :
    SeqStopsK (α := Coming ps) F n Try.prog 37 #[.pointer (some ⟨Bs, 0, none⟩)] (fun x => encP x.1) (KpB 42 K) (fun ys => ys.map Subtype.val = comeP ps ps.length) (fun pre => ∃ k, k ≤ ps.length ∧ pre.map Subtype.val = comeP ps k) ps.length w := fun l J Jx W hW hJ hJx hY h0 => by
  refine (parts1_in F n hf hro hn l Bs cap A ps hlen hwf K hK (fun pre W => ∃ pre' : List (Coming ps), pre'.map Subtype.val = pre ∧ J pre' W) (fun pre W => ∃ pre' : List (Coming ps), pre'.map Subtype.val = pre ∧ Jx pre' W) W.heap.size (fun s X Y row hs hg hr => by obtain ⟨pre', h1, h2⟩ := hs; exact ⟨pre', h1, hJ pre' X Y row h2 hg hr⟩) ?_ W (fun b hb => Nat.lt_of_lt_of_le (hKs b hb) hW.size) ((hW.cell (p := ⟨Bs, 0, none⟩) hBl).trans hBs) (hR.on hW) ⟨[], rfl, h0⟩).mono ?_
  · rintro pre x W1 ⟨pre', rfl, h1⟩ hl hx
    rw [List.length_map] at hl
    obtain ⟨fn, tmps, assign, body, hy, hr⟩ := hY pre' ⟨x, hx⟩ W1 h1 hl
    refine ⟨fn, tmps, assign, body, hy, hr.mono ?_⟩
    rintro e W' (⟨rfl, a, b⟩ | ⟨rfl, a⟩)
    · exact Or.inl ⟨rfl, ⟨pre' ++ [⟨x, hx⟩], by rw [List.map_append]; rfl, a⟩, b⟩
    · exact Or.inr ⟨rfl, ⟨pre' ++ [⟨x, hx⟩], by rw [List.map_append]; rfl, a⟩⟩
  · rintro e W' ⟨hv, ⟨ys, rfl, pre', h1, h2⟩ | ⟨pre, ⟨k, hk, rfl⟩, pre', h1, h2⟩⟩
    · exact ⟨hv, Or.inl ⟨pre', h1, h2⟩⟩
    · exact ⟨hv, Or.inr ⟨pre', ⟨k, hk, h1⟩, h2⟩⟩
/-- The blocks of a list. -/
def rowK (A : Option Addr) (B : Nat) (b : Nat) : Prop := (∃ o, A = some ⟨b, o, none⟩) ∧ b < B
theorem rowK_of {w : World} {A : Option Addr} {ps : List Pc} (h : RdP w A ps) : ps ≠ [] → ∀ g o, A = some ⟨g, o, none⟩ → rowK A w.heap.size g := fun hne g o e => by
  cases ps with
  | nil => exact absurd rfl hne
  | cons p r =>
    obtain ⟨g', o', e', h1, _⟩ := h 0 p rfl
    rw [e] at e'
    injection e' with e'
    injection e' with e1
    exact ⟨⟨o, e⟩, e1 ▸ h1⟩
end Go.Proofs.Ytiaojhjghededaa
