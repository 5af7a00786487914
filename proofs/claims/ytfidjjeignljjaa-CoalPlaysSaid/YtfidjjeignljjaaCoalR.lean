/- Layer 11: the document's own gatherer. -/
import Derived.Test.YtfidjjeignljjaaCoalO
import Derived.Deep.DeepCutAuto
namespace Go.Proofs.Ytfidjjeignljjaa
open Go.RowKit
set_option linter.unusedVariables false
set_option maxRecDepth 100000
set_option maxHeartbeats 400000
abbrev us (ws : List Int) : List Value := ws.map (Value.int .u64)
theorem us_at {ws : List Int} {k : Nat} (h : k < ws.length) : (us ws)[k]? = some (.int .u64 (ws.getD k 0)) := by simp [List.getD, List.getElem?_eq_getElem h]
theorem us_one (ws : List Int) : ∀ u ∈ us ws, u.oneCell' = true := fun u hu => by obtain ⟨x, _, rfl⟩ := List.mem_map.1 hu; rfl
abbrev RefL (r : Nat) (C H N : Int) (ws : List Int) (A : Option Addr) (cap : Nat) : List Res :=
  [BlkR r 33 #[.int .i64 C, .int .u64 H, .slice A ws.length cap, .int .u64 N], LisR 22 1 (.slice A ws.length cap) ws.length (us ws)]
def RefR (r : Nat) (C H N : Int) (ws : List Int) : Res := fun w S => ∃ A cap, Star (RefL r C H N ws A cap) w S
theorem RefR.ok (r : Nat) (C H N : Int) (ws : List Int) : Ok (RefR r C H N ws) :=
  ⟨fun ⟨_, _, h⟩ => (Star.ok _).lt h, fun ⟨A, cap, h⟩ hk => ⟨A, cap, (Star.ok _).frame h hk⟩⟩
section
variable {w0 w w' : World} {S0 : Nat → Prop} {L : List Res} {r : Nat} {C H N now n f N' v : Int} {ok : Bool} {ws ws' : List Int} {A : Option Addr} {cap : Nat}
theorem ref_due (Hs : St w0 S0 w (RefL r C H N ws A cap ++ L)) (ho : WOK C H N ws) (hR : DueR H ws v ok) :
    Calls Try.prog 16 #[.pointer (some ⟨r, 0, none⟩)] w fun e w' => e = .returned (.tuple #[.int .u64 v, .bool ok]) ∧ Below w.heap.size w w' := by
  obtain ⟨c0, c1, c2, c3⟩ := (Hs.blk 0 rfl).four
  obtain ⟨A', cap', hv, hcap, hmx, _, hcell⟩ := Hs.lis_cells 1 rfl
  injection hv with hv1 _ hv2
  subst hv1; subst hv2
  unfold maxLen at hmx
  have hc := ho.c
  rcases hR with ⟨rfl, rfl, rfl⟩ | ⟨g1, g2, rfl, rfl⟩ | ⟨g1, g2, rfl, rfl⟩
  · simp only [List.length_nil] at c2
    clear hcell
    go_enter Try.func16, Try.ntmps16
    go_wp2_with fail
    go_quiet (fail)
    go_wp2_with fail
    go_ret2
    exact ⟨rfl, by first | exact below_drewN (Below.refl _ _) _ | exact below_drewN (below_drewN (Below.refl _ _) _) _⟩
  · obtain ⟨g, off, rfl, hcc⟩ := hcell.resolve_left (by omega)
    have e0 := hcc 0 _ (us_at g1)
    have hall := ho.all 0 g1
    generalize ws.getD 0 0 = F at *
    have hw : IntKind.u64.wrap (F + H) = F + H := IntWalk.u64_in _ ⟨by omega, by omega⟩
    have d1 : decide (4611686018427387904 ≤ F + H) = false := decide_eq_false (by omega)
    have d2 : ((ws.length : Int) == 0) = false := beq_eq_false_iff_ne.2 (by omega)
    have d3 : (ws.length == 0) = false := beq_eq_false_iff_ne.2 (by omega)
    have i0 : (0 : Int) < (ws.length : Int) := by omega
    simp only [Nat.add_zero] at e0
    clear hcc hcell
    generalize ws.length = len at *
    go_enter Try.func16, Try.ntmps16
    go_wp2_with fail
    go_quiet (fail)
    go_wp2_with fail
    go_quiet (fail)
    go_wp2_with fail
    go_ret2
    exact ⟨rfl, by first | exact below_drewN (Below.refl _ _) _ | exact below_drewN (below_drewN (Below.refl _ _) _) _⟩
  · obtain ⟨g, off, rfl, hcc⟩ := hcell.resolve_left (by omega)
    have e0 := hcc 0 _ (us_at g1)
    have hall := ho.all 0 g1
    generalize ws.getD 0 0 = F at *
    have hw : IntKind.u64.wrap (F + H) = F + H := IntWalk.u64_in _ ⟨by omega, by omega⟩
    have d1 : decide (4611686018427387904 ≤ F + H) = true := decide_eq_true (by omega)
    have d2 : ((ws.length : Int) == 0) = false := beq_eq_false_iff_ne.2 (by omega)
    have d3 : (ws.length == 0) = false := beq_eq_false_iff_ne.2 (by omega)
    have i0 : (0 : Int) < (ws.length : Int) := by omega
    simp only [Nat.add_zero] at e0
    clear hcc hcell
    generalize ws.length = len at *
    go_enter Try.func16, Try.ntmps16
    go_wp2_with fail
    go_quiet (fail)
    go_wp2_with fail
    go_ret2
    exact ⟨rfl, by first | exact below_drewN (Below.refl _ _) _ | exact below_drewN (below_drewN (Below.refl _ _) _) _⟩
theorem ref_go (ho : WOK C H N ws) (hnow : 0 ≤ now) (hR : GoR H N ws now n f N' ws') : ∀ w S, RefR r C H N ws w S →
    Calls Try.prog 14 #[.pointer (some ⟨r, 0, none⟩), .int .u64 now] w fun e w' => e = .returned (.tuple #[.int .i64 n, .int .i64 f]) ∧ ∃ S', RefR r C H N' ws' w' S' ∧ Did S S' w w' := by
  rintro w S ⟨A, cap, hs⟩
  have s1 := St.start hs
  have hb := s1.blk 0 rfl
  obtain ⟨c0, c1, c2, c3⟩ := hb.four
  have hlen := ho.len
  have hC := ho.c
  rcases hR with ⟨g1, rfl, rfl, rfl, rfl⟩ | ⟨g1, g2, rfl, rfl, rfl, rfl⟩ | ⟨g1, g2, g3, g4, rfl, rfl, rfl, rfl⟩ | ⟨g1, g2, g3, rfl, rfl, rfl, rfl⟩
  · have d0 : decide (4611686018427387904 ≤ now) = true := decide_eq_true (by omega)
    go_enter Try.func14, Try.ntmps14
    go_wp2_with fail
    go_ret2
    exact ⟨rfl, s1.fin fun S' h => ⟨A, cap, h⟩⟩
  · have d0 : decide (4611686018427387904 ≤ now) = false := decide_eq_false (by omega)
    have d1 : decide (now < N') = true := decide_eq_true (by omega)
    go_enter Try.func14, Try.ntmps14
    go_wp2_with fail
    go_ret2
    exact ⟨rfl, s1.fin fun S' h => ⟨A, cap, h⟩⟩
  · have d0 : decide (4611686018427387904 ≤ N') = false := decide_eq_false (by omega)
    have d1 : decide (N' < N) = false := decide_eq_false (by omega)
    have f3 := hb.frozen 3
    have s2 : St w S _ (RefL r C H N' ws A cap) := s1.set_ 0 rfl 3 (.int .u64 N')
    have hdu : DueR H ws (ws.getD 0 0 + H) true := Or.inr (Or.inl ⟨g3, by omega, rfl, rfl⟩)
    have HD := Lib.hid (ref_due (L := []) s2 ⟨hC, ⟨hnow, g1⟩, hlen, ho.all⟩ hdu)
    have dd : decide (N' < ws.getD 0 0 + H) = false := decide_eq_false (by omega)
    clear hdu
    generalize ws.getD 0 0 + H = v at *
    go_enter Try.func14, Try.ntmps14
    go_wp2_with fail
    refine HD.out.mono ?_
    rintro e w1 ⟨rfl, hk⟩
    have s3 := s2.stay hk
    clear c0 c1 c2 c3 f3
    obtain ⟨c0, c1, c2, c3⟩ := (s3.blk 0 rfl).four
    have f2 := (s3.blk 0 rfl).frozen 2
    have s4 : St w S _ [_, _] := s3.set_ 0 rfl 2 (.slice none 0 0)
    have s5 : St w S _ (RefL r C H N' [] none 0) := (s4.drop 1 (by simp)).lis_nil 22 1
    go_wp2_with fail
    go_ret2
    exact ⟨rfl, s5.fin fun S' h => ⟨none, 0, h⟩⟩
  · have d0 : decide (4611686018427387904 ≤ N') = false := decide_eq_false (by omega)
    have d1 : decide (N' < N) = false := decide_eq_false (by omega)
    have f3 := hb.frozen 3
    have s2 : St w S _ (RefL r C H N' ws' A cap) := s1.set_ 0 rfl 3 (.int .u64 N')
    obtain ⟨v, ok, hdu⟩ := dueR_ex H ws'
    have HD := Lib.hid (ref_due (L := []) s2 ⟨hC, ⟨hnow, g1⟩, hlen, ho.all⟩ hdu)
    have hv : ok = false ∨ N' < v := by
      rcases hdu with ⟨_, _, h⟩ | ⟨k1, _, h, _⟩ | ⟨_, _, _, h⟩
      · exact Or.inl h
      · rcases g3 with g3 | g3
        · rw [g3] at k1; simp at k1
        · right; rw [h]; exact g3
      · exact Or.inl h
    clear hdu g3
    cases ok with
    | false =>
      go_enter Try.func14, Try.ntmps14
      go_wp2_with fail
      refine HD.out.mono ?_
      rintro e w1 ⟨rfl, hk⟩
      go_wp2_with fail
      go_ret2
      exact ⟨rfl, (s2.stay hk).fin fun S' h => ⟨A, cap, h⟩⟩
    | true =>
      have dd : decide (N' < v) = true := decide_eq_true (by rcases hv with h | h; cases h; exact h)
      clear hv
      go_enter Try.func14, Try.ntmps14
      go_wp2_with fail
      refine HD.out.mono ?_
      rintro e w1 ⟨rfl, hk⟩
      go_wp2_with fail
      go_ret2
      exact ⟨rfl, (s2.stay hk).fin fun S' h => ⟨A, cap, h⟩⟩
theorem Try.infoU : (Try.prog.info? 22).map (fun i => (i.zero, i.size, i.bytes)) = some (some (.int .u64 0), 1, 8) := by kernel_rfl
theorem ref_raise (ho : WOK C H N ws) (hnow : 0 ≤ now) (hR : RaiseR C H N ws now n f N' ws') : ∀ w S, RefR r C H N ws w S →
    Calls Try.prog 12 #[.pointer (some ⟨r, 0, none⟩), .int .u64 now] w fun e w' => e = .returned (.tuple #[.int .i64 n, .int .i64 f]) ∧ ∃ S', RefR r C H N' ws' w' S' ∧ Did S S' w w' := by
  rintro w S hs
  obtain ⟨n1, f1, N1, ws1, hG, hh⟩ := hR
  have HG := Lib.hid (St.call (ref_go ho hnow hG) (RefR.ok _ _ _ _ _) (St.start (Star.one (RefR.ok _ _ _ _ _) hs)) 0 rfl)
  have h1 := ho.go hnow hG
  have hlen := h1.len
  have hC := h1.c
  have HH := Lib.hid hh
  clear hh
  by_cases hf : f1 = 0
  · subst hf
    obtain ⟨i0, hi, hz0, hz1, hz2⟩ := info_parts Try.infoU
    go_enter Try.func12, Try.ntmps12
    go_wp2_with fail
    refine HG.out.mono ?_
    rintro e w1 ⟨rfl, s1⟩
    obtain ⟨S1, hst, hd⟩ := s1
    obtain ⟨A, cap, hs2⟩ := star_one hst
    have s2 : St w S w1 (RefL r C H N1 ws1 A cap) := ⟨S1, hs2, hd⟩
    clear hst hs2 hd
    have s3 : St w S _ [_, _, _] := s2.lis_new 22 1 0 #[] rfl (by unfold maxLen; omega)
    obtain ⟨c0, c1, c2, c3⟩ := (s3.blk 0 rfl).four
    have hl3 := s3.lis 2 rfl
    have hr3 := (s3.lis 1 rfl).reads
    go_wp2_with (first
      | (at_builtin; refine wpList_lis rfl (.tmp 18) (.tmp 22) 31 rfl 22 i0 (.int .u64 0) 1 8 Try.underlying31 hi hz0 hz1 hz2 rfl (by decide) _ _ _ rfl hl3 A ws1.length cap (us ws1) rfl hr3 (us_one ws1) (by unfold maxLen; omega) (by omega) ?_; intro B4 cap4 w4 hl4 hg4 hat4; rw [Nat.zero_add] at hl4 hat4; have s4 : St w S w4 [_, _, LisR 22 1 (.slice B4 ws1.length cap4) ws1.length (us ws1)] := s3.lis_put 2 rfl hl4 hg4 hat4; have s5 := s4.alloc (.cells #[.int .u64 now] 22); have hl5 := s5.lis 2 rfl; have hr5 := rds_box w4 22 (.int .u64 now); clear hl4 hg4 hat4 c0 c1 c2 c3)
      | (at_builtin; refine wpList_lis rfl (.tmp 23) (.tmp 25) 31 rfl 22 i0 (.int .u64 0) 1 8 Try.underlying31 hi hz0 hz1 hz2 rfl (by decide) _ _ _ rfl hl5 (some ⟨w4.heap.size, 0, none⟩) 1 1 [.int .u64 now] rfl hr5 (by simp [Value.oneCell']) (by unfold maxLen; omega) (by omega) ?_; intro B6 cap6 w6 hl6 hg6 hat6; have s6 : St w S w6 [_, _, _] := s5.lis_put 2 rfl hl6 hg6 hat6; obtain ⟨c0, c1, c2, c3⟩ := (s6.blk 0 rfl).four; have f2 := (s6.blk 0 rfl).frozen 2; clear hl6 hg6 hat6 hl5 hr5 s5 s4))
    have s7 : St w S _ [_, _, _] := s6.set_ 0 rfl 2 (.slice B6 (ws1.length + 1) cap6)
    clear c0 c1 c2 c3 f2 hl3 hr3 s3 s2
    obtain ⟨c0, c1, c2, c3⟩ := (s7.blk 0 rfl).four
    have bn : 0 ≤ n1 ∧ n1 ≤ 1000 := by
      have h2 := ho.len
      have h3 := ho.c
      rcases hG with ⟨_, h, _⟩ | ⟨_, _, h, _⟩ | ⟨_, _, _, _, h, _⟩ | ⟨_, _, _, h, _⟩ <;> omega
    have S7 := Lib.hid s7
    by_cases hfi : C ≤ (ws1.length : Int) + 1 ∨ H = 0
    · obtain ⟨rfl, rfl, rfl, rfl⟩ : f = 0 ∧ N' = N1 ∧ n = n1 + (ws1.length + 1) ∧ ws' = [] := by
        rcases HH.out with ⟨h, _⟩ | ⟨_, h1, h2, _, h3, h4⟩ | ⟨_, _, _, h, _⟩
        · exact absurd rfl h
        · exact ⟨h1, h2, h3, h4⟩
        · exact absurd hfi h
      by_cases hcc : C ≤ (ws1.length : Int) + 1
      · have d1 : decide (C ≤ (ws1.length : Int) + 1) = true := decide_eq_true hcc
        clear hfi hcc s7 s6 hG
        go_quiet (fail)
        generalize (w6.setCell ⟨r, 2, none⟩ (.slice B6 (ws1.length + 1) cap6)) = w7 at *
        have f2 := (S7.out.blk 0 rfl).frozen 2
        have s9 : St w S _ [_, _, _] := (S7.out.drewN nq).set_ 0 rfl 2 (.slice none 0 0)
        have s10 : St w S _ [_] := (s9.drop 1 (by simp)).drop 1 (by simp)
        have S11 := Lib.hid (show St w S _ (RefL r _ _ N' [] none 0) from s10.lis_nil 22 1)
        clear s9 s10
        go_wp2_with fail
        go_ret2
        exact ⟨rfl, S11.out.fin fun S' h => ⟨none, 0, h⟩⟩
      · obtain rfl : H = 0 := by omega
        have d1 : decide (C ≤ (ws1.length : Int) + 1) = false := decide_eq_false hcc
        clear hfi hcc s7 s6 hG
        go_quiet (fail)
        generalize (w6.setCell ⟨r, 2, none⟩ (.slice B6 (ws1.length + 1) cap6)) = w7 at *
        have f2 := (S7.out.blk 0 rfl).frozen 2
        have s9 : St w S _ [_, _, _] := (S7.out.drewN nq).set_ 0 rfl 2 (.slice none 0 0)
        have s10 : St w S _ [_] := (s9.drop 1 (by simp)).drop 1 (by simp)
        have S11 := Lib.hid (show St w S _ (RefL r _ _ N' [] none 0) from s10.lis_nil 22 1)
        clear s9 s10
        go_wp2_with fail
        go_ret2
        exact ⟨rfl, S11.out.fin fun S' h => ⟨none, 0, h⟩⟩
    · obtain ⟨rfl, rfl, rfl, rfl⟩ : f = 0 ∧ N' = N1 ∧ n = n1 ∧ ws' = ws1 ++ [now] := by
        rcases HH.out with ⟨h, _⟩ | ⟨_, _, _, h, _⟩ | ⟨_, h1, h2, _, h3, h4⟩
        · exact absurd rfl h
        · exact absurd h hfi
        · exact ⟨h1, h2, h3, h4⟩
      have d1 : decide (C ≤ (ws1.length : Int) + 1) = false := decide_eq_false (by omega)
      have d2 : (H == 0) = false := beq_eq_false_iff_ne.2 (by omega)
      clear hfi s7 s6 hG
      go_quiet (fail)
      go_wp2_with fail
      go_ret2
      have s9 := (S7.out.drewN nq).drop 1 (by simp)
      exact ⟨rfl, s9.fin fun S' h => ⟨B6, cap6, by simpa [RefL] using h⟩⟩
  · obtain ⟨_, rfl, rfl, rfl, rfl⟩ : f1 ≠ 0 ∧ n = 0 ∧ f = f1 ∧ N' = N1 ∧ ws' = ws1 := by
      rcases HH.out with h | ⟨h, _⟩ | ⟨h, _⟩
      · exact h
      · exact absurd h hf
      · exact absurd h hf
    have d0 : (f == 0) = false := beq_eq_false_iff_ne.2 hf
    go_enter Try.func12, Try.ntmps12
    go_wp2_with fail
    refine HG.out.mono ?_
    rintro e w1 ⟨rfl, s1⟩
    go_wp2_with fail
    go_ret2
    exact ⟨rfl, s1.fin fun S' h => star_one h⟩
theorem ref_cells (Hs : St w0 S0 w L) (i : Nat) (hi : L[i]? = some (RefR r C H N ws)) : ∃ A cap, w.cell? ⟨r, 2, none⟩ = some (.slice A ws.length cap) ∧ w.cell? ⟨r, 3, none⟩ = some (.int .u64 N) := by
  obtain ⟨S, A, cap, hs⟩ := Hs.get i hi
  obtain ⟨_, _, c2, c3⟩ := ((St.start hs).blk 0 rfl).four
  exact ⟨A, cap, c2, c3⟩
theorem ref_make (Hs : St w0 S0 w L) (C H : Int) : St w0 S0 (w.alloc (.cells #[.int .i64 C, .int .u64 H, .slice none 0 0, .int .u64 0] 33)) (L ++ [RefR w.heap.size C H 0 []]) := by
  have h1 := ((St.begin w).box 33 #[.int .i64 C, .int .u64 H, .slice none 0 0, .int .u64 0]).lis_nil 22 1
  obtain ⟨S', h2, h3, h4⟩ := h1.made
  exact Hs.more h4 (Star.one (RefR.ok _ _ _ _ _) ⟨none, 0, h2⟩) h3
theorem rmay_yes (C H : Int) (w : World) (h : 1 ≤ C ∧ C ≤ 1000 ∧ 0 ≤ H ∧ H ≤ 1099511627776) : Calls Try.prog 10 #[.int .i64 C, .int .u64 H] w fun e w' => e = .returned (.bool true) ∧ w = w' := by
  obtain ⟨h1, h2, h3, h4⟩ := h
  have d1 : decide (1 ≤ C) = true := decide_eq_true h1
  have d2 : decide (C ≤ 1000) = true := decide_eq_true h2
  have d4 : decide (H ≤ 1099511627776) = true := decide_eq_true h4
  go_enter Try.func10, Try.ntmps10
  go_wp2
  go_ret
  exact ⟨by simp, rfl⟩
theorem rmay_no (C H : Int) (w : World) (h0 : 0 ≤ H) (h : ¬ (1 ≤ C ∧ C ≤ 1000 ∧ 0 ≤ H ∧ H ≤ 1099511627776)) : Calls Try.prog 10 #[.int .i64 C, .int .u64 H] w fun e w' => e = .returned (.bool false) ∧ w = w' := by
  by_cases h1 : 1 ≤ C
  · by_cases h2 : C ≤ 1000
    · have d1 : decide (1 ≤ C) = true := decide_eq_true h1
      have d2 : decide (C ≤ 1000) = true := decide_eq_true h2
      have d4 : decide (H ≤ 1099511627776) = false := decide_eq_false (by omega)
      clear h
      go_enter Try.func10, Try.ntmps10
      go_wp2
      go_ret
      exact ⟨rfl, rfl⟩
    · have d1 : decide (1 ≤ C) = true := decide_eq_true h1
      have d2 : decide (C ≤ 1000) = false := decide_eq_false h2
      clear h
      go_enter Try.func10, Try.ntmps10
      go_wp2
      go_ret
      exact ⟨rfl, rfl⟩
  · have d1 : decide (1 ≤ C) = false := decide_eq_false h1
    clear h
    go_enter Try.func10, Try.ntmps10
    go_wp2
    go_ret
    exact ⟨rfl, rfl⟩
end
end Go.Proofs.Ytfidjjeignljjaa
