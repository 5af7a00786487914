/- Layer 18: the nearest one; the next one. -/
import Derived.Test.YtmikjbhhnndncaaOrdD
namespace Go.Proofs.Ytmikjbhhnndncaa
open Go.RowKit
set_option linter.unusedVariables false
set_option maxRecDepth 100000
set_option maxHeartbeats 1000000
def nw (r : Option Wt) : Wt := r.getD ⟨0, 0, 0⟩
def noff (s : OSt) (up : Bool) (r : Option Wt) : Int := match r with | none => 0 | some x => off up s.head x.track
theorem nearStep_none {s : OSt} {up : Bool} {x : Wt} (hc : cand s up x) : nearStep s up none x = some x := by unfold nearStep; rw [if_pos hc]
theorem nearStep_some {s : OSt} {up : Bool} {x : Wt} (hc : cand s up x) (v : Wt) : nearStep s up (some v) x = if nearer s up x v then some x else some v := by unfold nearStep; rw [if_pos hc]
section
variable {w0 w w' : World} {S0 S : Nat → Prop} {N L : List Res} {q : Nat} {s s' : OSt}
/-- What the loop over the requests needs to know: the queue, and the closure's boxes. -/
def NearL (q : Nat) (A : Option Addr) (c : Nat) (s : OSt) (p1 p2 p3 : Nat) (up : Bool) : List Res :=
  OQL q A c s ++ [BlkR p1 24 #[.pointer (some ⟨q, 0, none⟩)], BlkR p2 4 #[.bool up], BlkR p3 30 #[.int .u64 (firstD s.l)]]
theorem least_c {A : Option Addr} {c p1 p2 p3 : Nat} {up : Bool} (H : St w0 S0 w (NearL q A c s p1 p2 p3 up)) (hs : s.ok) {r : Option Wt} (hr : NearP s up s.l.length r) :
    Calls Try.prog 47 #[.pointer (some ⟨q, 0, none⟩), .func (Fn.func 48) #[] #[.pointer (some ⟨p1, 0, none⟩), .pointer (some ⟨p2, 0, none⟩), .pointer (some ⟨p3, 0, none⟩)]] w
      fun e w' => e = .returned (.tuple #[(nw r).v, .bool r.isSome]) ∧ Below w.heap.size w w' := by
  obtain ⟨n, hn⟩ : ∃ n, n = s.l.length := ⟨_, rfl⟩
  have h1 : (NearL q A c s p1 p2 p3 up)[1]? = some (LisR 32 3 (.slice A n c) n (ovs s.l)) := by rw [hn]; rfl
  have hcap : n ≤ c ∧ c ≤ maxLen := by
    obtain ⟨A', c', hv, h1, h2⟩ := (H.lis 1 h1).shape
    injection hv with _ _ hv
    subst hv; exact ⟨h1, h2⟩
  unfold maxLen at hcap
  have hn64 : n ≤ 64 := by rw [hn]; exact hs.len
  have HH := Lib.hid H
  have HS := Lib.hid hs
  have HN := Lib.hid hn
  have HR := Lib.hid hr
  have HL1 := Lib.hid h1
  have sz : St w None ((w.alloc (.cells #[.int .i64 0, .int .u64 0, .int .i64 0] 32)).alloc (.cells #[.int .i64 0, .int .u64 0, .int .i64 0] 32)) [BlkR w.heap.size 32 #[.int .i64 0, .int .u64 0, .int .i64 0], BlkR (w.heap.size + 1) 32 #[.int .i64 0, .int .u64 0, .int .i64 0]] := by
    have t := ((St.begin w).box 32 #[.int .i64 0, .int .u64 0, .int .i64 0]).box 32 #[.int .i64 0, .int .u64 0, .int .i64 0]
    rw [show (w.alloc (.cells #[.int .i64 0, .int .u64 0, .int .i64 0] 32)).heap.size = w.heap.size + 1 by simp] at t
    exact t
  have q0 : ((w.alloc (.cells #[.int .i64 0, .int .u64 0, .int .i64 0] 32)).alloc (.cells #[.int .i64 0, .int .u64 0, .int .i64 0] 32)).cell? ⟨q, 0, none⟩ = some (.slice A n c) := by rw [hn]; exact ((HH.out.stay sz.below).blk 0 rfl).three.1
  have SZ := Lib.hid sz
  clear H hs hn hr h1 sz
  go_enter Try.func47, Try.ntmps47
  go_wp2_with fail
  obtain ⟨g4, hg4⟩ : ∃ g, g = w.heap.size := ⟨_, rfl⟩
  go_loopw [7, 8, 18] (fun o f t wr => ∃ (k : Nat) (r : Option Wt), k ≤ n ∧ t = .int .i64 (k : Int) ∧ o = .int .i64 (noff s up r) ∧ f = .bool r.isSome ∧ NearP s up k r ∧ St w None wr [BlkR w.heap.size 32 #[.int .i64 0, .int .u64 0, .int .i64 0], BlkR (w.heap.size + 1) 32 (nw r).cells]) (fun _ _ t _ => n - (intOf t).toNat)
  case atStart => exact ⟨0, none, by omega, rfl, rfl, rfl, fun i x h => by omega, SZ.out⟩
  case round =>
  clear SZ q0
  obtain ⟨k, r', hk, rfl, rfl, rfl, hnp, sr⟩ := hrel
  by_cases hkn : k < n
  · obtain ⟨x, hx⟩ : ∃ x, s.l[k]? = some x := ⟨_, List.getElem?_eq_getElem (by rw [← HN.out]; exact hkn)⟩
    have so := HH.out.stay sr.below
    obtain ⟨b, o, rfl, -, m0, m1, m2⟩ := want_at (so.lis 1 HL1.out) hx
    have t1 : decide ((k : Int) < (n : Int)) = true := decide_eq_true (by omega)
    have t1' : decide (k < n) = true := decide_eq_true hkn
    have hmx := HS.out.may x (List.mem_of_getElem? hx)
    -- the copy, and what the closure tells of it
    have sb : St w None (wr.alloc (.cells #[.int .i64 x.id, .int .u64 x.dead, .int .i64 x.track] 32)) [BlkR w.heap.size 32 #[.int .i64 0, .int .u64 0, .int .i64 0], BlkR (w.heap.size + 1) 32 (nw r').cells, BlkR wr.heap.size 32 #[.int .i64 x.id, .int .u64 x.dead, .int .i64 x.track]] := St.box (L := [_, _]) sr _ _
    have sx := HH.out.stay sb.below
    have CL := Lib.hid (fun b hb => looks (sought_c x p1 p2 p3 s.head (firstD s.l) up _ (sx.blk 2 rfl).one (sx.blk 3 rfl).one (sx.blk 4 rfl).one (sx.blk 0 rfl).three.2.1 hmx HS.out.hd b hb) sb)
    unfold Wt.v at CL
    obtain ⟨c0, c1, c2⟩ := (sb.blk 2 rfl).three
    have HNP := Lib.hid (hnp.step hx)
    clear hnp so sx sb hmx sr
    by_cases hc : cand s up x
    · have C1 := Lib.hid (CL.out true (decide_eq_true hc).symm)
      have HE0 := Lib.hid (nearStep_none hc)
      have HE1 := Lib.hid (nearStep_some hc)
      clear CL hc hx
      cases r' with
      | none =>
        have HNQ := Lib.hid (show NearP s up (k + 1) (some x) from by have h := HNP.out; rw [HE0.out] at h; exact h)
        clear HE0 HE1
        go_wp2_with fail
        refine C1.out.mono ?_
        rintro e w1 ⟨rfl, s1⟩
        obtain ⟨e0, e1, e2⟩ := (s1.blk 2 rfl).three
        have f0 := (s1.blk 1 rfl).frozen 0
        have f1 := (s1.blk 1 rfl).frozen 1
        have f2 := (s1.blk 1 rfl).frozen 2
        obtain ⟨d0, d1, d2⟩ : _ ∧ _ ∧ _ := (s1.blk 1 rfl).three
        have S2 := Lib.hid (show St w None _ [BlkR w.heap.size 32 #[.int .i64 0, .int .u64 0, .int .i64 0], BlkR (w.heap.size + 1) 32 (nw (some x)).cells] from (((s1.set_ 1 rfl 0 (.int .i64 x.id)).set_ 1 rfl 1 (.int .u64 x.dead)).set_ 1 rfl 2 (.int .i64 x.track)).take 2)
        clear C1 s1 c0 c1 c2
        go_wp2_with fail
        go_roundw
        case rel => exact ⟨k + 1, some x, by omega, by go_num, rfl, rfl, HNQ.out, S2.out⟩
        case measure => simp [intOf]; omega
      | some v =>
        have hv : noff s up (some v) = off up s.head v.track := rfl
        by_cases h1 : off up s.head x.track < off up s.head v.track
        · have HNQ := Lib.hid (show NearP s up (k + 1) (some x) from by
            have h := HNP.out; rw [HE1.out, if_pos (show nearer s up x v from Or.inl h1)] at h; exact h)
          have z1 : decide (off up s.head x.track < noff s up (some v)) = true := decide_eq_true h1
          clear HE0 HE1 h1 hv
          go_wp2_with fail
          refine C1.out.mono ?_
          rintro e w1 ⟨rfl, s1⟩
          obtain ⟨e0, e1, e2⟩ := (s1.blk 2 rfl).three
          have f0 := (s1.blk 1 rfl).frozen 0
          have f1 := (s1.blk 1 rfl).frozen 1
          have f2 := (s1.blk 1 rfl).frozen 2
          obtain ⟨d0, d1, d2⟩ : _ ∧ _ ∧ _ := (s1.blk 1 rfl).three
          have S2 := Lib.hid (show St w None _ [BlkR w.heap.size 32 #[.int .i64 0, .int .u64 0, .int .i64 0], BlkR (w.heap.size + 1) 32 (nw (some x)).cells] from (((s1.set_ 1 rfl 0 (.int .i64 x.id)).set_ 1 rfl 1 (.int .u64 x.dead)).set_ 1 rfl 2 (.int .i64 x.track)).take 2)
          clear C1 s1 c0 c1 c2
          go_wp2_with fail
          go_roundw
          case rel => exact ⟨k + 1, some x, by omega, by go_num, rfl, rfl, HNQ.out, S2.out⟩
          case measure => simp [intOf]; omega
        · have z1 : decide (off up s.head x.track < noff s up (some v)) = false := decide_eq_false h1
          by_cases h2 : off up s.head x.track = off up s.head v.track
          · have HOV := Lib.hid (show off up s.head x.track = noff s up (some v) from h2)
            obtain ⟨ov, hov⟩ : ∃ ov, ov = noff s up (some v) := ⟨_, rfl⟩
            have HOW := Lib.hid (show noff s up (some v) = ov from hov.symm)
            have HOX := Lib.hid (show off up s.head x.track = ov from HOV.out.trans hov.symm)
            have z3' := z1
            clear z1 z3'
            rw [HOX.out] at C1
            have z1 : decide (ov < ov) = false := decide_eq_false (by omega)
            have z2 : (ov == ov) = true := beq_self_eq_true _
            by_cases h3 : x.id < v.id
            · have HNQ := Lib.hid (show NearP s up (k + 1) (some x) from by
                have h := HNP.out; rw [HE1.out, if_pos (show nearer s up x v from Or.inr ⟨h2, h3⟩)] at h; exact h)
              have z3 : decide (x.id < (nw (some v)).id) = true := decide_eq_true h3
              clear HE0 HE1 h1 h2 h3 hv hov HOV
              rw [HOW.out]
              go_wp2_with fail
              refine C1.out.mono ?_
              rintro e w1 ⟨rfl, s1⟩
              obtain ⟨e0, e1, e2⟩ := (s1.blk 2 rfl).three
              have f0 := (s1.blk 1 rfl).frozen 0
              have f1 := (s1.blk 1 rfl).frozen 1
              have f2 := (s1.blk 1 rfl).frozen 2
              obtain ⟨d0, d1, d2⟩ : _ ∧ _ ∧ _ := (s1.blk 1 rfl).three
              have S2 := Lib.hid (show St w None _ [BlkR w.heap.size 32 #[.int .i64 0, .int .u64 0, .int .i64 0], BlkR (w.heap.size + 1) 32 (nw (some x)).cells] from (((s1.set_ 1 rfl 0 (.int .i64 x.id)).set_ 1 rfl 1 (.int .u64 x.dead)).set_ 1 rfl 2 (.int .i64 x.track)).take 2)
              clear C1 s1 c0 c1 c2
              go_wp2_with fail
              go_roundw
              case rel => exact ⟨k + 1, some x, by omega, by go_num, by show Value.int .i64 ov = .int .i64 (off up s.head x.track); rw [HOX.out], rfl, HNQ.out, S2.out⟩
              case measure => simp [intOf]; omega
            · have HNQ := Lib.hid (show NearP s up (k + 1) (some v) from by
                have h := HNP.out; rw [HE1.out, if_neg (show ¬ nearer s up x v by unfold nearer; omega)] at h; exact h)
              have z3 : decide (x.id < (nw (some v)).id) = false := decide_eq_false h3
              clear HE0 HE1 h1 h2 h3 hv hov HOV
              rw [HOW.out]
              go_wp2_with fail
              refine C1.out.mono ?_
              rintro e w1 ⟨rfl, s1⟩
              obtain ⟨e0, e1, e2⟩ := (s1.blk 2 rfl).three
              obtain ⟨d0, d1, d2⟩ : _ ∧ _ ∧ _ := (s1.blk 1 rfl).three
              have S2 := Lib.hid (show St w None w1 [BlkR w.heap.size 32 #[.int .i64 0, .int .u64 0, .int .i64 0], BlkR (w.heap.size + 1) 32 (nw (some v)).cells] from s1.take 2)
              clear C1 s1 c0 c1 c2
              go_wp2_with fail
              go_roundw
              case rel => exact ⟨k + 1, some v, by omega, by go_num, by rw [HOW.out], rfl, HNQ.out, S2.out⟩
              case measure => simp [intOf]; omega
          · have z2 : (off up s.head x.track == noff s up (some v)) = false := beq_eq_false_iff_ne.2 h2
            have HNQ := Lib.hid (show NearP s up (k + 1) (some v) from by
              have h := HNP.out; rw [HE1.out, if_neg (show ¬ nearer s up x v by unfold nearer; omega)] at h; exact h)
            clear HE0 HE1 h1 h2 hv
            go_wp2_with fail
            refine C1.out.mono ?_
            rintro e w1 ⟨rfl, s1⟩
            obtain ⟨e0, e1, e2⟩ := (s1.blk 2 rfl).three
            obtain ⟨d0, d1, d2⟩ : _ ∧ _ ∧ _ := (s1.blk 1 rfl).three
            have S2 := Lib.hid (show St w None w1 [BlkR w.heap.size 32 #[.int .i64 0, .int .u64 0, .int .i64 0], BlkR (w.heap.size + 1) 32 (nw (some v)).cells] from s1.take 2)
            clear C1 s1 c0 c1 c2
            go_wp2_with fail
            go_roundw
            case rel => exact ⟨k + 1, some v, by omega, by go_num, rfl, rfl, HNQ.out, S2.out⟩
            case measure => simp [intOf]; omega
    · have C1 := Lib.hid (CL.out false (decide_eq_false hc).symm)
      have HE := Lib.hid (show nearStep s up r' x = r' by unfold nearStep; rw [if_neg hc])
      rw [HE.out] at HNP
      clear HE hc CL hx
      go_wp2_with fail
      refine C1.out.mono ?_
      rintro e w1 ⟨rfl, s1⟩
      have S1 := Lib.hid (show St w None w1 [BlkR w.heap.size 32 #[.int .i64 0, .int .u64 0, .int .i64 0], BlkR (w.heap.size + 1) 32 (nw r').cells] from s1.take 2)
      clear C1 s1
      go_wp2_with fail
      go_roundw
      case rel => exact ⟨k + 1, r', by omega, by go_num, rfl, rfl, HNP.out, S1.out⟩
      case measure => simp [intOf]; omega
  · obtain rfl : k = n := by omega
    have t1 : decide ((k : Int) < (k : Int)) = false := decide_eq_false (by omega)
    have t1' : decide (k < k) = false := decide_eq_false (by omega)
    obtain rfl : r = r' := NearP.uniq HS.out HR.out (by rw [← HN.out]; exact hnp)
    obtain ⟨d0, d1, d2⟩ : _ ∧ _ ∧ _ := (sr.blk 1 rfl).three
    obtain ⟨c0, c1, c2⟩ := (sr.blk 0 rfl).three
    have f0 := (sr.blk 0 rfl).frozen 0
    have f1 := (sr.blk 0 rfl).frozen 1
    have f2 := (sr.blk 0 rfl).frozen 2
    have s2 := ((sr.set_ 0 rfl 0 (.int .i64 (nw r).id)).set_ 0 rfl 1 (.int .u64 (nw r).dead)).set_ 0 rfl 2 (.int .i64 (nw r).track)
    obtain ⟨k0, k1, k2⟩ : _ ∧ _ ∧ _ := (s2.blk 0 rfl).three
    have S2 := Lib.hid s2
    clear sr s2 hnp HR HS HH
    go_wp2_with fail
    refine bodyPost_ret (v := .tuple #[(nw r).v, .bool r.isSome]) ?_ rfl ⟨rfl, S2.out.below⟩
    simp [results, Try.results47, go_sem, k0, k1, k2, Wt.v]
end
end Go.Proofs.Ytmikjbhhnndncaa
