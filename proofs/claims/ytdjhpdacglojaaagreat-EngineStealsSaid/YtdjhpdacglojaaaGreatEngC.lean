/- Layer 24: a slot. -/
import Derived.Test.YtdjhpdacglojaaaGreatEngB
import Derived.Deep.DeepCutAuto
namespace Go.Proofs.YtdjhpdacglojaaaGreat
open Go.RowKit
set_option linter.unusedVariables false
set_option maxRecDepth 100000
set_option maxHeartbeats 3200000
theorem Tryz.infoEI : (Tryz.prog.info? 3).map (fun i => (i.zero, i.size, i.bytes)) = some (some (.int .i64 0), 1, 8) := by kernel_rfl
theorem St.last_put {w0 w w' : World} {S0 : Nat → Prop} {L : List Res} {e : TypeId} {size n n' : Nat} {v v' : Value} {xs xs' : List Value} (h : St w0 S0 w (L ++ [LisR e size v n xs])) (hl : Lis w' e size v' n' xs') (hg : w.grownBy w' v.ownBlock) (hat : v'.ownBlock = v.ownBlock ∨ ∃ g, v'.ownBlock = some g ∧ w.heap.size ≤ g) : St w0 S0 w' (L ++ [LisR e size v' n' xs']) := by
  have := h.lis_put L.length (e := e) (size := size) (v := v) (n := n) (xs := xs) (by simp) hl hg hat
  simpa using this
theorem St.last_l {w0 w : World} {S0 : Nat → Prop} {L : List Res} {e : TypeId} {size n : Nat} {v : Value} {xs : List Value} (h : St w0 S0 w (L ++ [LisR e size v n xs])) : Lis w e size v n xs := h.lis L.length (by simp)
theorem cell_ltE {w : World} {q : Addr} {v : Value} (h : w.cell? q = some v) : q.block < w.heap.size := by
  rcases Nat.lt_or_ge q.block w.heap.size with hlt | hge
  · exact hlt
  · unfold World.cell? at h
    rw [Array.getElem?_eq_none hge] at h
    cases h
theorem St.init_l {w0 w : World} {S0 : Nat → Prop} {L : List Res} {R : Res} (h : St w0 S0 w (L ++ [R])) : St w0 S0 w L := by
  have := h.take L.length
  rwa [List.take_left] at this
/-- A row of numbers, made anew. -/
theorem clone_iv {A : Option Addr} {c : Nat} {l : List Int} (w : World) (hr : Rds w A l.length 1 (iv l)) (hn1 : l.length ≤ 1000) : Calls Tryz.prog 62 #[.slice A l.length c] w fun e w' => ∃ B d, e = .returned (.slice B l.length d) ∧ St w None w' [LisR 3 1 (.slice B l.length d) l.length (iv l)] := by
  obtain ⟨iI, hiI, hzI, hsI, hbI⟩ := info3w Tryz.infoEI
  obtain ⟨n, hn⟩ : ∃ n, l.length = n := ⟨_, rfl⟩
  rw [hn] at hr hn1 ⊢
  cases A with
  | none =>
    obtain rfl : n = 0 := by
      rcases hr.2 with h | ⟨g, off, h, _⟩
      · exact h
      · cases h
    have hl0 : iv l = [] := List.eq_nil_of_length_eq_zero (by have := hr.1; omega)
    have s1 : St w None w [LisR 3 1 (.slice none 0 0) 0 (iv l)] := by rw [hl0]; exact (St.begin w).lis_nil 3 1
    have S1 := Lib.hid s1
    clear s1 hl0 hr hn
    have NY : ∀ W, (binOp .eql 35 (.slice none 0 c) (.slice none 0 0)).run Tryz.prog W = .ok (.bool true) W := fun W => by rfl
    go_enter Tryz.func62, Tryz.ntmps62
    go_wp2_with fail
    go_ret
    exact ⟨none, 0, rfl, S1.out⟩
  | some a =>
    have NN : ∀ W, (binOp .eql 35 (.slice (some a) n c) (.slice none 0 0)).run Tryz.prog W = .ok (.bool false) W := fun W => by rfl
    have s1 : St w None (w.alloc (.cells #[] 3)) [LisR 3 1 (.slice (some ⟨w.heap.size, 0, none⟩) 0 0) 0 []] := (St.begin w).lis_new 3 1 0 #[] rfl (by unfold maxLen; omega)
    have HL := Lib.hid (show Lis (w.alloc (.cells #[] 3)) 3 1 (.slice (some ⟨w.heap.size, 0, none⟩) 0 0) 0 [] from s1.lis 0 rfl)
    have RB := Lib.hid (show Rds (w.alloc (.cells #[] 3)) (some a) n 1 (iv l) from ⟨hr.1, hr.2.imp id fun ⟨g, off, h1, h2⟩ => ⟨g, off, h1, fun j u hu => cell_alloc (h2 j u hu) _⟩⟩)
    have S1 := Lib.hid s1
    have HN := Lib.hid hn1
    clear s1 hr hn
    go_enter Tryz.func62, Tryz.ntmps62
    go_wp2_with (at_builtin; refine wpList_lis rfl (.tmp 5) (.tmp 6) 35 rfl 3 iI (.int .i64 0) 1 8 Tryz.underlying35 hiI hzI hsI hbI rfl (by decide) _ _ _ rfl HL.out (some a) n c (iv l) rfl RB.out (iv_one l) (by have := HN.out; unfold maxLen; omega) (by omega) ?_; intro B d w4 hl hg hat; rw [Nat.zero_add] at hl hat ⊢; have t4 := S1.out.lis_put 0 rfl hl hg hat; have T4 := Lib.hid (show St w None w4 [LisR 3 1 (.slice B n d) n (iv l)] from t4); clear hl hg hat t4)
    go_wp2_with fail
    go_ret
    exact ⟨B, d, rfl, T4.out⟩
/-- What is wanted: what others want, and the engine, if it has a descriptor. -/
def wantsE (l : List Int) (m : Mv) (id : Int) : List Int := if 0 ≤ m.no then l ++ [id] else l
def fE (l : List Int) : Nat → Int := fun j => l.getD j 0
/-- What a slot does. -/
def SlE (n sz : Nat) (G : Int) (C : bs.BC) (id x now : Int) (l : List Int) (D : Dv) (m : Mv) (s : bs.BS) (v f : Int) (D2 : Dv) (m2 : Mv) (s' : bs.BS) : Prop :=
  ∃ D1 m1, ((m.no < 0 ∧ TkE n D m D1 m1) ∨ (0 ≤ m.no ∧ D1 = D ∧ m1 = m)) ∧ DvI n sz G D1 ∧ m1.ok ∧
    bs.SlotR C s now (bs.okB (wantsE l m1 id).length (fE (wantsE l m1 id)) C.n) (bs.wantB (wantsE l m1 id).length (fE (wantsE l m1 id))) v f s' ∧
    ((¬ (f = 0 ∧ v = id ∧ 0 ≤ m1.no) ∧ D2 = D1 ∧ m2 = m1) ∨ ((f = 0 ∧ v = id ∧ 0 ≤ m1.no) ∧ WrE n D1 m1 x D2 m2))
section
variable {w0 w : World} {S0 : Nat → Prop} {X N L : List Res} {a : Da} {n sz : Nat} {G : Int} {bp : Nat → Nat} {D D' : Dv} {e b g mb : Nat} {mp : Nat → Nat} {C : bs.BC} {id : Int} {m m' : Mv} {s : bs.BS}
theorem ewrite_o (H : St w0 S0 w (DvL a n sz bp D ++ (EngX e b g mb a.d mp C id m s ++ N))) (hI : DvI n sz G D) (hm : (0 ≤ m.no ∧ m.no ≤ 1000000) ∧ 0 ≤ m.at_ ∧ m.at_ < m.sz ∧ m.sz ≤ 65536) (x : Int) {cw : Int} {st' : Nat → po.Buf} (hP : WrP n D m.no m.at_ [x] cw st') :
    Calls Tryz.prog 64 #[ptrV e, .int .u8 x] w fun r w' => r = .returned (.int .i64 (if cw = 0 then (if m.at_ + 1 < m.sz then 1 else 2) else 0)) ∧ St w0 S0 w' (DvL a n sz bp { D with st := st' } ++ (EngX e b g mb a.d mp C id m s ++ N)) := by
  obtain ⟨c0, -, -, c3, c4, c5, -⟩ := (eng_blk H).seven7
  have qq := And.intro c0 (And.intro c3 c4)
  have CE := Lib.hid (fun (W : World) (D' : Dv) (h : St w0 S0 W (DvL a n sz bp D' ++ (EngX e b g mb a.d mp C id m s ++ N))) => And.intro (eng_blk h).seven7.1 (And.intro (eng_blk h).seven7.2.2.2.1 (And.intro (eng_blk h).seven7.2.2.2.2.1 (eng_blk h).seven7.2.2.2.2.2.1)))
  have KW := Lib.hid (wrD_o (H.drew.alloc (.cells #[.int .u8 x] 5)) hI.c.pok (A := some ⟨w.heap.size, 0, none⟩) (cp := 1) (xs := [x]) (by unfold maxLen; simp) (rds_box w.drew 5 (.int .u8 x)) (no := m.no) (at' := m.at_) (wf_small (by omega) (by omega)) (fun k hk => by
    obtain ⟨q, hq, -, -⟩ := hI.c.psl _ k hk
    rw [hq] at hk
    have hk := (hI.c.pk q k hk).1
    have g := hI.c.rg k hk
    have g1 := g.fr
    have g2 := g.le
    exact ⟨hk, ⟨by omega, by omega⟩, by omega, by omega⟩) hP)
  clear H hI hP
  obtain ⟨no, hno⟩ : ∃ no, m.no = no := ⟨_, rfl⟩
  obtain ⟨at_, hat⟩ : ∃ no, m.at_ = no := ⟨_, rfl⟩
  obtain ⟨z, hz⟩ : ∃ no, m.sz = no := ⟨_, rfl⟩
  rw [hno, hat, hz] at CE
  rw [hno, hat] at qq KW
  rw [hno] at c3
  rw [hat] at c4
  rw [hat, hz] at hm ⊢
  rw [hz] at c5
  obtain ⟨-, hm1, hm2, hm3⟩ := hm
  obtain ⟨R, hR⟩ : ∃ R : Int, (if cw = 0 then (if at_ + 1 < z then 1 else 2) else 0) = R := ⟨_, rfl⟩
  rw [hR]
  have HRR := Lib.hid hR
  clear hno hat hz hR
  go_enter Tryz.func64, Tryz.ntmps64
  go_wp2_with fail
  go_region_held3 (fun V => V.cell? ⟨e, 0, none⟩ = some (ptrV a.d) ∧ V.cell? ⟨e, 3, none⟩ = some (.int .i64 no) ∧ V.cell? ⟨e, 4, none⟩ = some (.int .i64 at_)) (go_keep)
    (first
      | (go_at_call 127; refine KW.out.mono ?_; rintro r w1 ⟨rfl, s1⟩; have S1 := Lib.hid s1; have q1 := CE.out _ _ s1; clear s1))
  all_goals
    obtain ⟨-, -, y4, y5⟩ := CE.out _ _ S1.out
    clear qq c0 c3 c4 c5 CE KW
    by_cases hc : cw = 0
    · have z0 : (cw != 0) = false := by simp [hc]
      by_cases hl : at_ + 1 < z
      · have z1 : decide (at_ + 1 < z) = true := decide_eq_true hl
        have wz : IntKind.i64.wrap (at_ + 1) = at_ + 1 := IntWalk.i64_in _ ⟨by omega, by omega⟩
        have HE := Lib.hid (show R = 1 by rw [← HRR.out, if_pos hc, if_pos hl])
        clear hc
        go_wp2_with fail
        go_quiet (fail)
        go_wp2_with fail
        go_ret
        exact ⟨by rw [HE.out]; rfl, S1.out.drewN _⟩
      · have z1 : decide (at_ + 1 < z) = false := decide_eq_false hl
        have wz : IntKind.i64.wrap (at_ + 1) = at_ + 1 := IntWalk.i64_in _ ⟨by omega, by omega⟩
        have HE := Lib.hid (show R = 2 by rw [← HRR.out, if_pos hc, if_neg hl])
        clear hc
        go_wp2_with fail
        go_quiet (fail)
        go_wp2_with fail
        go_ret
        exact ⟨by rw [HE.out]; rfl, S1.out.drewN _⟩
    · have z0 : (cw != 0) = true := by simp [hc]
      have HE := Lib.hid (show R = 0 by rw [← HRR.out, if_neg hc])
      clear hc
      go_wp2_with fail
      go_ret
      exact ⟨by rw [HE.out]; rfl, S1.out⟩
end
end Go.Proofs.YtdjhpdacglojaaaGreat
