/- Layer 5: the document's own meter. -/
import Derived.Test.YtabocojmobbpaaaShareO
import Derived.Deep.RegionHeld3
import Derived.Deep.DrawnRows
namespace Go.Proofs.Ytabocojmobbpaaa
open Go.RowKit
set_option linter.unusedVariables false
set_option maxRecDepth 100000
set_option maxHeartbeats 400000
/-- The takes, as cells. -/
def fl : List (Int × Int) → List Value
  | [] => []
  | p :: ws => .int .u64 p.1 :: .int .u64 p.2 :: fl ws
theorem fl_at : ∀ (ws : List (Int × Int)) (k : Nat) (p : Int × Int), ws[k]? = some p → (fl ws)[k * 2]? = some (.int .u64 p.1) ∧ (fl ws)[k * 2 + 1]? = some (.int .u64 p.2)
  | [], k, p, h => by simp at h
  | q :: ws, 0, p, h => by simp at h; subst h; exact ⟨rfl, rfl⟩
  | q :: ws, k + 1, p, h => by
    have := fl_at ws k p (by simpa using h)
    rw [show (k + 1) * 2 = k * 2 + 2 by omega]
    exact ⟨by simpa [fl] using this.1, by simpa [fl] using this.2⟩
theorem fl_app (ws : List (Int × Int)) (p : Int × Int) : fl (ws ++ [p]) = fl ws ++ [.int .u64 p.1, .int .u64 p.2] := by
  induction ws with
  | nil => rfl
  | cons q ws ih => simp [fl, ih]
theorem sw_step {ws : List (Int × Int)} {k : Nat} {p : Int × Int} (h : ws[k]? = some p) (K : Int) : sw K (ws.take (k + 1)) = sw K (ws.take k) + (if p.1 = K then p.2 else 0) := by
  rw [List.take_add_one, h]; exact sw_app K _ p
abbrev MxL (r : Nat) (B P ph N : Int) (ws : List (Int × Int)) (A : Option Addr) (cap : Nat) : List Res :=
  [BlkR r 94 #[.int .u64 B, .int .u64 P, .int .u64 ph, .int .u64 N, .slice A ws.length cap], LisR 98 2 (.slice A ws.length cap) ws.length (fl ws)]
def MxR (r : Nat) (B P ph N : Int) (ws : List (Int × Int)) : Res := fun w S => ∃ A cap, Star (MxL r B P ph N ws A cap) w S
theorem MxR.ok (r : Nat) (B P ph N : Int) (ws : List (Int × Int)) : Ok (MxR r B P ph N ws) :=
  ⟨fun ⟨_, _, h⟩ => (Star.ok _).lt h, fun ⟨A, cap, h⟩ hk => ⟨A, cap, (Star.ok _).frame h hk⟩⟩
theorem Blk.five {w : World} {g : Nat} {t : TypeId} {x y z u v : Value} (h : Blk w g t #[x, y, z, u, v]) : w.cell? ⟨g, 0, none⟩ = some x ∧ w.cell? ⟨g, 1, none⟩ = some y ∧ w.cell? ⟨g, 2, none⟩ = some z ∧ w.cell? ⟨g, 3, none⟩ = some u ∧ w.cell? ⟨g, 4, none⟩ = some v :=
  ⟨by have := h.cell 0; simpa using this, by have := h.cell 1; simpa using this, by have := h.cell 2; simpa using this, by have := h.cell 3; simpa using this, by have := h.cell 4; simpa using this⟩
section
variable {w0 w w' : World} {S0 : Nat → Prop} {L : List Res} {r : Nat} {B P ph N now n v f N' : Int} {ws : List (Int × Int)}
theorem win_no (t p d : Int) (w : World) (h : ¬ t < 4611686018427387904) : Calls Try.prog 39 #[.int .u64 t, .int .u64 p, .int .u64 d] w fun e w' => e = .returned (.tuple #[.int .u64 0, .int .u64 0, .int .i64 2]) ∧ w = w' :=
  rwindow_hor t p d w (fun h1 => h h1.1)
theorem mx_left (ho : XOK B P ph N ws) (hnow : 0 ≤ now) (hR : LeftR B P ph N ws now v f N') : ∀ w S, MxR r B P ph N ws w S →
    Calls Try.prog 32 #[.pointer (some ⟨r, 0, none⟩), .int .u64 now] w fun e w' => e = .returned (.tuple #[.int .u64 v, .int .i64 f]) ∧ ∃ S', MxR r B P ph N' ws w' S' ∧ Did S S' w w' := by
  rintro w S ⟨A, cap, hs⟩
  have s1 := St.start hs
  obtain ⟨c0, c1, c2, c3, c4⟩ := (s1.blk 0 rfl).five
  have hsh := ho.share
  have hn := ho.n
  rcases hR with ⟨g1, rfl, rfl, rfl⟩ | ⟨g1, g2, rfl, rfl, rfl⟩ | ⟨g1, g2, rfl, rfl, rfl⟩
  · have WH := Lib.hid (fun w => win_no now ph P w g1)
    go_enter Try.func32, Try.ntmps32
    go_wp2_with fail
    go_quiet ((go_at_call 39; first | exact q_left (WH.out _) | exact q_add (WH.out _)))
    go_wp2_with fail
    go_ret2
    exact ⟨rfl, (s1.drewN _).fin fun S' h => ⟨A, cap, h⟩⟩
  · by_cases hp : ph ≤ now
    · have WH := Lib.hid (fun w => rwindow_ok now ph P w hn.1 hp g1 ⟨by omega, by omega⟩)
      have d1 : decide (now < N') = true := decide_eq_true g2
      go_enter Try.func32, Try.ntmps32
      go_wp2_with fail
      go_quiet ((go_at_call 39; first | exact q_left (WH.out _) | exact q_add (WH.out _)))
      go_wp2_with fail
      go_ret2
      exact ⟨rfl, (s1.drewN _).fin fun S' h => ⟨A, cap, h⟩⟩
    · have WH := Lib.hid (fun w => rwindow_arg now ph P w (by omega) g1 (by omega) (fun h => hp h.2.2))
      go_enter Try.func32, Try.ntmps32
      go_wp2_with fail
      go_quiet ((go_at_call 39; first | exact q_left (WH.out _) | exact q_add (WH.out _)))
      go_wp2_with fail
      go_ret2
      exact ⟨rfl, (s1.drewN _).fin fun S' h => ⟨A, cap, h⟩⟩
  · have WH := Lib.hid (fun w => rwindow_ok N' ph P w hn.1 (by omega) g1 ⟨by omega, by omega⟩)
    have d1 : decide (N' < N) = false := decide_eq_false (by omega)
    have hpos : ∀ p ∈ ws, 0 ≤ p.2 := fun p hp => (ho.win p hp).2.2
    generalize (N' - ph) / P = K at *
    have hm := ho.most K
    go_enter Try.func32, Try.ntmps32
    go_wp2_with fail
    go_quiet ((go_at_call 39; first | exact q_left (WH.out _) | exact q_add (WH.out _)))
    have s2 := s1.drewN nq
    clear s1 WH
    generalize w.drewN nq = w1 at *
    obtain ⟨c0, c1, c2, c3, c4⟩ := (s2.blk 0 rfl).five
    have f3 := (s2.blk 0 rfl).frozen 3
    have s3 : St w S _ (MxL r B P ph N' ws A cap) := s2.set_ 0 rfl 3 (.int .u64 N')
    clear s2
    obtain ⟨e0, e1, e2, e3, e4⟩ := (s3.blk 0 rfl).five
    have S3 := Lib.hid s3
    clear s3
    obtain ⟨m, hml⟩ : ∃ m, ws.length = m := ⟨_, rfl⟩
    have hmx : m ≤ maxLen := by
      obtain ⟨A', cap', hv, hcap, hmx, _⟩ := S3.out.lis_cells 1 rfl
      omega
    unfold maxLen at hmx
    rw [hml] at c4 e4
    have HML := Lib.hid hml
    clear hml
    go_wp2_with fail
    go_loopw [9, 10] (fun l y wr => ∃ k : Nat, k ≤ m ∧ y = .int .i64 k ∧ l = .int .u64 (B - sw K (ws.take k)) ∧ wr = w1.setCell ⟨r, 3, none⟩ (.int .u64 N')) (fun _ y _ => m - (intOf y).toNat)
    case atStart => exact ⟨0, by omega, rfl, by simp [sw], rfl⟩
    case round =>
      obtain ⟨k, hk, rfl, rfl, rfl⟩ := hrel
      by_cases hlt : k < m
      · have hkl : k < ws.length := by rw [HML.out]; exact hlt
        obtain ⟨p, hp⟩ : ∃ p, ws[k]? = some p := ⟨_, List.getElem?_eq_getElem hkl⟩
        obtain ⟨A', cap', hv, hcap, hmx2, _, hcell⟩ := S3.out.lis_cells 1 rfl
        injection hv with hv1 _ hv2
        subst hv1; subst hv2
        obtain ⟨g, off, rfl, hcc⟩ := hcell.resolve_left (by omega)
        obtain ⟨z0, z1⟩ := fl_at ws k p hp
        have x0 := hcc _ _ z0
        have x1 := hcc _ _ z1
        have st := sw_step hp K
        have hle := sw_take_le hpos K (k + 1)
        have hp2 := sw_pos (fun q hq => hpos q (List.mem_of_mem_take hq)) K (ws := ws.take k)
        have hpp := hpos p (List.mem_of_getElem? hp)
        rw [← Nat.add_assoc] at x1
        clear hcc hcell z0 z1 hp
        generalize sw K (ws.take k) = a at *
        have HE := Lib.hid st
        by_cases hpk : p.1 = K
        · rw [if_pos hpk] at st HE
          have hq : (p.1 == K) = true := beq_iff_eq.2 hpk
          generalize p.1 = p1 at *
          generalize p.2 = p2 at *
          have dw : IntKind.u64.wrap (B - a - p2) = B - a - p2 := IntWalk.u64_in _ ⟨by omega, by omega⟩
          subst hpk
          clear st
          go_wp2
          go_roundw
          case rel => exact ⟨k + 1, by omega, by go_num, by rw [HE.out, show B - (a + p2) = B - a - p2 by omega], trivial⟩
          case measure => simp [intOf]; omega
        · rw [if_neg hpk] at st HE
          have hq : (p.1 == K) = false := beq_eq_false_iff_ne.2 hpk
          generalize p.1 = p1 at *
          generalize p.2 = p2 at *
          clear st
          go_wp2
          go_roundw
          case rel => exact ⟨k + 1, by omega, by go_num, by rw [HE.out, Int.add_zero], trivial⟩
          case measure => simp [intOf]; omega
      · have ht : ws.take k = ws := List.take_of_length_le (by rw [HML.out]; omega)
        have HT := Lib.hid ht
        clear ht
        go_wp2
        go_ret2
        exact ⟨(by rw [show sw K ws = sw K (ws.take k) by rw [HT.out]]; rfl), S3.out.fin fun S' h => ⟨A, cap, h⟩⟩
theorem Try.infoT : (Try.prog.info? 98).map (fun i => (i.zero, i.size, i.bytes)) = some (some (.agg #[.int .u64 0, .int .u64 0]), 2, 16) := by kernel_rfl
theorem mx_take {ws' : List (Int × Int)} (ho : XOK B P ph N ws) (hnow : 0 ≤ now) (hn0 : 0 ≤ n) (hlen : ws.length ≤ 200) (hR : TakeR B P ph N ws now n v f N' ws') : ∀ w S, MxR r B P ph N ws w S →
    Calls Try.prog 34 #[.pointer (some ⟨r, 0, none⟩), .int .u64 now, .int .u64 n] w fun e w' => e = .returned (.tuple #[.int .u64 v, .int .i64 f]) ∧ ∃ S', MxR r B P ph N' ws' w' S' ∧ Did S S' w w' := by
  rintro w S hs
  obtain ⟨l, hL, hh⟩ := hR
  have HL := Lib.hid (St.call (mx_left ho hnow hL) (MxR.ok _ _ _ _ _ _) (St.start (Star.one (MxR.ok _ _ _ _ _ _) hs)) 0 rfl)
  have hsh := ho.share
  have hn := ho.n
  by_cases hf : f = 0
  · obtain ⟨g1, g2, hl, rfl⟩ := hL.ok hf
    subst hf
    obtain ⟨rfl, rfl⟩ : v = mn n l ∧ ws' = ws ++ [((N' - ph) / P, v)] := by
      rcases hh with ⟨h, _⟩ | ⟨_, h1, h2⟩
      · exact absurd rfl h
      · exact ⟨h1, h2⟩
    have hm := ho.most ((N' - ph) / P)
    have hb := mn_bd (n := n) (l := l) hn0 (by omega)
    have WH := Lib.hid (fun w => rwindow_ok N' ph P w hn.1 (by omega) g1 ⟨by omega, by omega⟩)
    clear hl hm hL hh
    generalize (N' - ph) / P = K at *
    obtain ⟨i0, hi, hz0, hz1, hz2⟩ := info_parts Try.infoT
    obtain ⟨v, hv⟩ : ∃ v, mn n l = v := ⟨_, rfl⟩
    rw [hv] at hb ⊢
    by_cases hnl : l < n
    · obtain rfl : l = v := by rw [← hv]; unfold mn; rw [if_neg (by omega)]
      have d1 : decide (l < n) = true := decide_eq_true hnl
      clear hv
      go_enter Try.func34, Try.ntmps34
      go_wp2_with fail
      refine HL.out.mono ?_
      rintro e w1 ⟨rfl, s1⟩
      obtain ⟨S1, hst, hd⟩ := s1
      obtain ⟨A, cap, hs2⟩ := star_one hst
      have s2 : St w S w1 (MxL r B P ph N' ws A cap) := ⟨S1, hs2, hd⟩
      clear hst hs2 hd
      obtain ⟨c0, c1, c2, c3, c4⟩ := (s2.blk 0 rfl).five
      go_wp2_with fail
      go_quiet ((go_at_call 39; first | exact q_left (WH.out _) | exact q_add (WH.out _)))
      have s3 := s2.drewN nq
      clear s2 WH HL c0 c1 c2 c3 c4
      generalize w1.drewN nq = w2 at *
      have s4 := s3.alloc (.cells #[.int .u64 K, .int .u64 l] 98)
      obtain ⟨c0, c1, c2, c3, c4⟩ := (s3.blk 0 rfl).five
      have hl4 := s4.lis 1 rfl
      have hr4 := rds_box2 w2 98 (.int .u64 K) (.int .u64 l)
      go_wp2_with (at_builtin; refine wpList_lis rfl _ _ 92 rfl 98 i0 (.agg #[.int .u64 0, .int .u64 0]) 2 16 Try.underlying92 hi hz0 hz1 hz2 rfl (by decide) _ _ _ rfl hl4 (some ⟨w2.heap.size, 0, none⟩) 1 1 [.int .u64 K, .int .u64 l] rfl hr4 (by simp [Value.oneCell']) (by unfold maxLen; omega) (by omega) ?_; intro B6 cap6 w6 hl6 hg6 hat6; have s6 : St w S w6 [_, _] := s4.lis_put 1 rfl hl6 hg6 hat6; obtain ⟨e0, e1, e2, e3, e4⟩ := (s6.blk 0 rfl).five; have f4 := (s6.blk 0 rfl).frozen 4)
      have s7 : St w S _ [_, _] := s6.set_ 0 rfl 4 (.slice B6 (ws.length + 1) cap6)
      go_ret2
      exact ⟨rfl, s7.fin fun S' h => ⟨B6, cap6, by simpa [MxL, fl_app] using h⟩⟩
    · obtain rfl : n = v := by rw [← hv]; unfold mn; split <;> omega
      have d1 : decide (l < n) = false := decide_eq_false hnl
      clear hv
      go_enter Try.func34, Try.ntmps34
      go_wp2_with fail
      refine HL.out.mono ?_
      rintro e w1 ⟨rfl, s1⟩
      obtain ⟨S1, hst, hd⟩ := s1
      obtain ⟨A, cap, hs2⟩ := star_one hst
      have s2 : St w S w1 (MxL r B P ph N' ws A cap) := ⟨S1, hs2, hd⟩
      clear hst hs2 hd
      obtain ⟨c0, c1, c2, c3, c4⟩ := (s2.blk 0 rfl).five
      go_wp2_with fail
      go_quiet ((go_at_call 39; first | exact q_left (WH.out _) | exact q_add (WH.out _)))
      have s3 := s2.drewN nq
      clear s2 WH HL c0 c1 c2 c3 c4
      generalize w1.drewN nq = w2 at *
      have s4 := s3.alloc (.cells #[.int .u64 K, .int .u64 n] 98)
      obtain ⟨c0, c1, c2, c3, c4⟩ := (s3.blk 0 rfl).five
      have hl4 := s4.lis 1 rfl
      have hr4 := rds_box2 w2 98 (.int .u64 K) (.int .u64 n)
      go_wp2_with (at_builtin; refine wpList_lis rfl _ _ 92 rfl 98 i0 (.agg #[.int .u64 0, .int .u64 0]) 2 16 Try.underlying92 hi hz0 hz1 hz2 rfl (by decide) _ _ _ rfl hl4 (some ⟨w2.heap.size, 0, none⟩) 1 1 [.int .u64 K, .int .u64 n] rfl hr4 (by simp [Value.oneCell']) (by unfold maxLen; omega) (by omega) ?_; intro B6 cap6 w6 hl6 hg6 hat6; have s6 : St w S w6 [_, _] := s4.lis_put 1 rfl hl6 hg6 hat6; obtain ⟨e0, e1, e2, e3, e4⟩ := (s6.blk 0 rfl).five; have f4 := (s6.blk 0 rfl).frozen 4)
      have s7 : St w S _ [_, _] := s6.set_ 0 rfl 4 (.slice B6 (ws.length + 1) cap6)
      go_ret2
      exact ⟨rfl, s7.fin fun S' h => ⟨B6, cap6, by simpa [MxL, fl_app] using h⟩⟩
  · obtain ⟨rfl, rfl⟩ : v = 0 ∧ ws' = ws := by
      rcases hh with ⟨_, h1, h2⟩ | ⟨h, _⟩
      · exact ⟨h1, h2⟩
      · exact absurd h hf
    have d0 : (f == 0) = false := beq_eq_false_iff_ne.2 hf
    go_enter Try.func34, Try.ntmps34
    go_wp2_with fail
    refine HL.out.mono ?_
    rintro e w1 ⟨rfl, s1⟩
    go_wp2_with fail
    go_ret2
    exact ⟨rfl, s1.fin fun S' h => star_one h⟩
theorem mx_new (Hs : St w0 S0 w L) (B P ph : Int) :
    Calls Try.prog 24 #[.agg #[.int .u64 B, .int .u64 P], .int .u64 ph] w fun e w' => ∃ r, e = .returned (.pointer (some ⟨r, 0, none⟩)) ∧ St w0 S0 w' (L ++ [MxR r B P ph ph []]) := by
  have h1 : St w None _ (MxL _ B P ph ph [] none 0) := ((((St.begin w).alloc (.cells #[.int .u64 B, .int .u64 P] 32)).box 94 #[.int .u64 B, .int .u64 P, .int .u64 ph, .int .u64 ph, .slice none 0 0]).lis_nil 98 2)
  obtain ⟨S', h2, h3, h4⟩ := h1.made
  have key := Hs.more h4 (Star.one (MxR.ok _ B P ph ph []) ⟨none, 0, h2⟩) h3
  have HK := Lib.hid key
  clear h1 h2 h3 h4 key Hs
  go_enter Try.func24, Try.ntmps24
  go_wp2_with fail
  go_ret
  exact ⟨_, rfl, by simpa using HK.out⟩
end
end Go.Proofs.Ytabocojmobbpaaa
