/-
  For all masters and wants BusUrgent answers true, and changes nothing: program and document give each slot to the same one, and nobody more urgent who may wanted it. No condition.
-/
import Derived.Test.YtabocojmobbpaaaRows
import Derived.Test.YtabocojmobbpaaaFr
import Derived.Test.YtabocojmobbpaaaBusX
import Derived.Test.YtabocojmobbpaaaBusW
import Derived.Test.YtabocojmobbpaaaShareR
import Derived.Test.YtabocojmobbpaaaOpen
import Derived.LoopTactic
namespace Go.Proofs.Ytabocojmobbpaaa.busUrgent
open Go.ChangeShapes Go.WideShapes Go.ChangeAt Go.RowKit
set_option linter.unusedVariables false
theorem own : ownKnob Try.prog.godebug = none := by kernel_rfl
theorem laid : laidOutB Try.prog = true := by kernel_rfl
set_option maxRecDepth 100000
set_option maxHeartbeats 1000000
attribute [local go_sem ↓] Go.wp_at_zero Go.wp_at_succ
theorem rdm_stay {w w' : World} {A : Option Addr} {n m : Nat} {V : Nat → Nat → Value} (rd : RdM w A n m V) (hw : Below w.heap.size w w') : RdM w' A n m V := fun h => by
  obtain ⟨b, off, e, hlt, hc⟩ := rd h
  exact ⟨b, off, e, Nat.lt_of_lt_of_le hlt hw.size, fun j hj i hi => (hw.cell (p := ⟨b, off + (j * m + i), none⟩) hlt).trans (hc j hj i hi)⟩
theorem rnew2 {w0 w : World} {S0 : Nat → Prop} {L : List Res} {A : Option Addr} {cap n : Nat} {ph : Int} {C : BC} {V : Nat → Nat → Value} (hC : C.OK) (hn : C.n = n) (hph : C.ph = ph) (hV : MV C V) (H : St w0 S0 w L) (rd : RdM w A n 4 V) :
    Calls Try.prog 14 #[.slice A n cap, .int .u64 ph] w fun e w' => ∃ r sb rp, e = .returned (.pointer (some ⟨r, 0, none⟩)) ∧ St w0 S0 w' (L ++ [RBusR C A cap r sb rp 0 (bs0 ph)]) := by
  subst hn; subst hph; exact RNew_o H hC rd hV
/-- Behind t ticks: in no window has one had more slots than there were. -/
structure Urg (C : BC) (t : Nat) (s : BS) : Prop where
  next : s.next = t
  low : ∀ i, i < C.n → ∀ K, sw K (s.ws i) ≤ 0 ∨ sw K (s.ws i) ≤ t - K * C.P i
theorem urg_begin (C : BC) : Urg C 0 (bs0 0) := ⟨rfl, fun i hi K => Or.inl (by simp [sw])⟩
theorem slot_urg {C : BC} {t : Nat} {s s' : BS} {want : Nat → Bool} {v f : Int} (hC : C.OK) (hph : C.ph = 0) (ht : t < 120) (H : Urg C t s) (hR : SlotR C s t true want v f s') :
    (f = 5 ∧ Urg C (t + 1) s') ∨ (∃ b : Nat, b < C.n ∧ f = 0 ∧ v = b ∧ Urg C (t + 1) s' ∧ ∀ i, i < C.n → want i = true → C.prio i < C.prio b → C.burst i = 0 → C.B i = C.P i → False) := by
  have hnx := H.next
  have hK : ∀ i, C.K i t = (t : Int) / C.P i := fun i => by unfold BC.K; rw [hph, Int.sub_zero]
  rcases hR with ⟨g, _⟩ | ⟨_, g, _⟩ | ⟨_, _, _, _, _, rfl, rfl⟩ | ⟨_, _, _, b, hbn, hbest, rfl, rfl, rfl⟩
  · omega
  · exact absurd ⟨rfl, by omega⟩ g
  · exact Or.inl ⟨rfl, by show (t : Int) + 1 = _; omega, fun i hi K => by rcases H.low i hi K with h | h; exact Or.inl h; exact Or.inr (by show sw K (s.ws i) ≤ _; omega)⟩
  · refine Or.inr ⟨b, hbn, rfl, rfl, ⟨by show (t : Int) + 1 = _; omega, fun i hi K => ?_⟩, fun i hi hw hp hbu hBP => ?_⟩
    · show sw K (upd s.ws b (s.ws b ++ [(C.K b t, 1)]) i) ≤ 0 ∨ sw K (upd s.ws b (s.ws b ++ [(C.K b t, 1)]) i) ≤ _
      have h := H.low i hi K
      unfold upd
      by_cases e2 : i = b
      · subst e2
        rw [if_pos rfl, sw_app, hK]
        dsimp only
        by_cases e : (t : Int) / C.P i = K
        · rw [if_pos e]
          have h2 : K * C.P i ≤ t := by rw [← e]; exact Int.ediv_mul_le _ (by have := hC.share i hi; omega)
          right; omega
        · rw [if_neg e]; omega
      · rw [if_neg e2]; omega
    · have hsh := hC.share i hi
      have hl := H.low i hi ((t : Int) / C.P i)
      have h3 : (t : Int) - (t : Int) / C.P i * C.P i < C.P i := by
        have h4 := Int.emod_lt_of_pos (t : Int) (show 0 < C.P i by omega)
        have h5 := Int.emod_add_mul_ediv (t : Int) (C.P i)
        rw [Int.mul_comm] at h5; omega
      have hleft : 0 < C.left s.ws i t := by unfold BC.left; rw [hK]; omega
      have := fst_least hbest i hi (by
        simp only [hw, Bool.true_and]
        unfold mayB
        simp [hbu, hleft])
      omega
theorem walk (A : Option Addr) (n cap : Nat) (V : Nat → Nat → Value) (A' : Option Addr) (n1 cap1 : Nat) (f1 : Nat → Int) (w : World) (hm : n ≤ maxLen) (hm1 : n1 ≤ maxLen) (rd : RdM w A n 4 V) (hV : MV (bcOf n V 0) V)
    (rd1 : Rd w A' n1 (fun i => .int .u16 (f1 i))) (w1 : ∀ i, (Lit.int .u16 (f1 i)).wf = true) :
    Calls Try.prog 6 #[.slice A n cap, .slice A' n1 cap1] w fun r w' => r = .returned (.bool true) ∧ Below w.heap.size w w' := by
  go_enter Try.func6, Try.ntmps6
  go_wp2_with fail
  refine (bawake _).mono ?_
  rintro e w2 ⟨rfl, hw2⟩
  have rdw : RdM w2 A (bcOf n V 0).n 4 V := rdm_stay rd hw2
  obtain ⟨x, hx1, hx2, hxc⟩ := all_any (C := bcOf n V 0) (cap := cap) w2 hm rdw hV
  cases x with
  | false =>
    go_wp2_with fail
    refine hxc.mono ?_
    rintro e w3 ⟨rfl, hw3⟩
    go_wp2_with fail
    go_ret
    exact ⟨rfl, below_then hw2 hw3⟩
  | true =>
    obtain ⟨g1, g16, gok⟩ := hx1 rfl
    have HC := Lib.hid (bc_ok (C := bcOf n V 0) (ph := 0) g1 g16 gok rfl (by omega))
    clear hx1 hx2 gok
    have g1 : 1 ≤ n := g1
    have g16 : n ≤ 16 := g16
    go_wp2_with fail
    refine hxc.mono ?_
    rintro e w3 ⟨rfl, hw3⟩
    clear hxc
    have hw3b := below_then hw2 hw3
    by_cases hn1 : n1 = 0
    · subst hn1
      go_wp2_with fail
      go_ret
      exact ⟨rfl, hw3b⟩
    · have z0 : ((n1 : Int) == 0) = false := beq_eq_false_iff_ne.2 (by omega)
      have s0 : St w None w3 [] := (St.begin w).stay hw3b
      go_wp2_with fail
      refine (bnew2 (n := n) HC.out rfl rfl hV s0 (rdm_stay rd hw3b)).mono ?_
      rintro e w4 ⟨b, g, mp, rfl, s4⟩
      obtain ⟨iI, hiI, hzI, hsI, hbI⟩ := info_parts Try.infoI
      have rdw4 : RdM w4 A n 4 V := rdm_stay rd s4.below
      go_wp2_with fail
      refine (rnew2 (n := n) HC.out rfl rfl hV s4 rdw4).mono ?_
      rintro e w5 ⟨r, sb, rp, rfl, s5'⟩
      have s5 : St w None w5 [RBusR (bcOf n V 0) A cap r sb rp 0 (bs0 0), BusP (bcOf n V 0) b g mp (bs0 0)] := St.comm (A := [BusP (bcOf n V 0) b g mp (bs0 0)]) s5'
      have H0 := Lib.hid (bs0_ok HC.out)
      have HU0 := Lib.hid (urg_begin (bcOf n V 0))
      clear s4 s5' rdw4 rdw
      go_wp2_with fail
      go_loopw [8] (fun t wr => ∃ (k : Nat) (s : BS), k ≤ 120 ∧ t = .int .u64 k ∧ Urg (bcOf n V 0) k s ∧ s.OK (bcOf n V 0) k ∧ St w None wr [RBusR (bcOf n V 0) A cap r sb rp k s, BusP (bcOf n V 0) b g mp s]) (fun t _ => 120 - (intOf t).toNat)
      case atStart => exact ⟨0, _, by omega, rfl, HU0.out, H0.out, s5⟩
      case round =>
        clear s5
        obtain ⟨k, s, hk, rfl, hU, hO, sr⟩ := hrel
        by_cases hlt : k < 120
        · have HU := Lib.hid hU
          have HO := Lib.hid hO
          clear hU hO
          have d0 : decide ((k : Int) < 120) = true := decide_eq_true (by omega)
          obtain ⟨j1, hj1⟩ : ∃ j1 : Nat, (k : Int) % (n1 : Int) = j1 := ⟨k % n1, by simp⟩
          have hj1n : j1 < n1 := by have := Int.emod_lt_of_pos (k : Int) (show (0 : Int) < n1 by omega); omega
          obtain ⟨y, hy⟩ : ∃ y, f1 j1 = y := ⟨_, rfl⟩
          have by1 := bounds_u16 (w1 j1)
          rw [hy] at by1
          have HY := Lib.hid hy
          clear hy
          go_wp2_with fail
          go_loopw [9, 10] (fun l id wx => ∃ j : Nat, j ≤ n ∧ id = .int .i64 j ∧ ∃ B c, l = .slice B (il (bitB y) j).length c ∧ St w None wx [RBusR (bcOf n V 0) A cap r sb rp k s, BusP (bcOf n V 0) b g mp s, LisR 3 1 l (il (bitB y) j).length (sv (il (bitB y) j))]) (fun _ id _ => n - (intOf id).toNat)
          case atStart => exact ⟨0, by omega, rfl, none, 0, rfl, sr.lis_nil _ _⟩
          case round =>
            clear sr
            obtain ⟨j, hj, rfl, B, c, rfl, sr⟩ := hrel
            have hl0 := il_len (bitB y) j
            by_cases hlt2 : j < n
            · obtain ⟨ib, off, rfl, hib, hcell⟩ := rd1.below sr.below (Nat.le_refl _) (by omega)
              have ck := hcell j1 hj1n
              dsimp only at ck
              rw [HY.out] at ck
              clear hcell
              cases hb : bitB y j with
              | false =>
                have hb' : (bits BinOp.and IntKind.u16 (y / 2 ^ j) 1 == 1) = false := hb
                have HI := Lib.hid (il_no hb)
                obtain ⟨q, hq⟩ : ∃ q, (il (bitB y) j).length = q := ⟨_, rfl⟩
                rw [hq] at sr
                have SR := Lib.hid sr
                have HL := Lib.hid hq
                rw [hq]
                clear hq hb sr
                go_wp2
                go_roundw
                case rel => exact ⟨j + 1, by omega, by go_num, B, c, by rw [HI.out, HL.out], by rw [HI.out, HL.out]; exact SR.out⟩
                case measure => simp [intOf]; omega
              | true =>
                have hb' : (bits BinOp.and IntKind.u16 (y / 2 ^ j) 1 == 1) = true := hb
                have HI := Lib.hid (il_yes hb)
                clear hb
                obtain ⟨q, hq⟩ : ∃ q, (il (bitB y) j).length = q := ⟨_, rfl⟩
                rw [hq] at sr
                have HQ := Lib.hid hq
                have hq2 : q ≤ n := by omega
                rw [hq]
                clear hq
                have s4 := sr.alloc (.cells #[.int .i64 j] 3)
                have hl4 := s4.lis 2 rfl
                have hr4 := rds_box wr 3 (.int .i64 j)
                clear sr
                go_wp2_with (at_builtin; refine wpList_lis rfl (.tmp 62) (.tmp 64) 38 rfl 3 iI (.int .i64 0) 1 8 Try.underlying38 hiI hzI hsI hbI rfl (by decide) _ _ _ rfl hl4 (some ⟨wr.heap.size, 0, none⟩) 1 1 [.int .i64 j] rfl hr4 (by simp [Value.oneCell']) (by unfold maxLen; omega) (by omega) ?_; intro B6 cap6 w6 hl6 hg6 hat6; have s6 : St w None w6 [RBusR (bcOf n V 0) A cap r sb rp k s, BusP (bcOf n V 0) b g mp s, _] := s4.lis_put 2 rfl hl6 hg6 hat6; clear hl6 hg6 hat6)
                go_roundw
                case rel =>
                  refine ⟨j + 1, by omega, by go_num, B6, cap6, ?_, ?_⟩
                  · rw [HI.out]; simp only [List.length_append, List.length_singleton, HQ.out]
                  · rw [HI.out, sv_app]; simp only [List.length_append, List.length_singleton, HQ.out]
                    exact s6
                case measure => simp [intOf]; omega
            · obtain rfl : j = n := by omega
              obtain ⟨l, hl⟩ : ∃ l, l = il (bitB y) j := ⟨_, rfl⟩
              rw [← hl] at sr hl0
              rw [← hl]
              have hlis := rd_sv (sr.lis 2 rfl)
              have hok : okB l.length (fs l) (bcOf j V 0).n = true := okB_of hl (fs_ok l).1
              obtain ⟨v, f, s', hR⟩ := slotR_ex (bcOf j V 0) s k (okB l.length (fs l) (bcOf j V 0).n) (wantB l.length (fs l))
              have hR2 := hR
              rw [hok] at hR2
              have hcase := slot_urg HC.out rfl hlt HU.out hR2
              have HO2 := Lib.hid (hR.next HO.out)
              have HR := Lib.hid hR
              have HWANT := Lib.hid (fun (i : Nat) (hi : i < j) => want_of hl (fs_ok l).1 (fs_ok l).2 hi)
              have HL := Lib.hid hl
              have hlj : l.length ≤ j := hl0
              clear hR hR2 hok hl
              rcases hcase with ⟨rfl, hU2⟩ | ⟨bb, hbn, rfl, rfl, hU2, hmost⟩
              · have HU2 := Lib.hid hU2
                clear hU2
                go_wp2_with fail
                refine (Slot_o sr 1 rfl HC.out HO.out (by omega) (by omega) (by unfold maxLen; omega) hlis HR.out).mono ?_
                rintro e w6 ⟨rfl, s6'⟩
                have s6 : St w None w6 [RBusR (bcOf j V 0) A cap r sb rp k s, BusP (bcOf j V 0) b g mp s', LisR 3 1 (.slice B l.length c) l.length (sv l)] := s6'
                have hlis6 := rd_sv (s6.lis 2 rfl)
                clear s6' sr hlis
                go_wp2_with fail
                refine (RSlot_o s6 HC.out rd hV HO.out (by omega) (by omega) (by omega) (by unfold maxLen; omega) hlis6 HR.out).mono ?_
                rintro e w7 ⟨rfl, s7'⟩
                have s7 : St w None w7 [RBusR (bcOf j V 0) A cap r sb rp (k + 1) s', BusP (bcOf j V 0) b g mp s'] := St.take s7' 2
                clear s7' s6 hlis6
                go_wp2
                go_roundw
                case rel => exact ⟨k + 1, s', by omega, by go_num, HU2.out, HO2.out, s7⟩
                case measure => simp [intOf]; omega
              · have hbn : bb < j := hbn
                have HU2 := Lib.hid hU2
                have HMOST := Lib.hid hmost
                clear hU2 hmost
                go_wp2_with fail
                refine (Slot_o sr 1 rfl HC.out HO.out (by omega) (by omega) (by unfold maxLen; omega) hlis HR.out).mono ?_
                rintro e w6 ⟨rfl, s6'⟩
                have s6 : St w None w6 [RBusR (bcOf j V 0) A cap r sb rp k s, BusP (bcOf j V 0) b g mp s', LisR 3 1 (.slice B l.length c) l.length (sv l)] := s6'
                have hlis6 := rd_sv (s6.lis 2 rfl)
                clear s6' sr hlis
                go_wp2_with fail
                refine (RSlot_o s6 HC.out rd hV HO.out (by omega) (by omega) (by omega) (by unfold maxLen; omega) hlis6 HR.out).mono ?_
                rintro e w7 ⟨rfl, s7'⟩
                have s7 : St w None w7 [RBusR (bcOf j V 0) A cap r sb rp (k + 1) s', BusP (bcOf j V 0) b g mp s', LisR 3 1 (.slice B l.length c) l.length (sv l)] := s7'
                clear s7' s6 hlis6
                go_wp2_with fail
                go_loopw [15] (fun z wx => ∃ c2 : Nat, c2 ≤ l.length ∧ z = .int .i64 (c2 : Nat) ∧ St w None wx [RBusR (bcOf j V 0) A cap r sb rp (k + 1) s', BusP (bcOf j V 0) b g mp s', LisR 3 1 (.slice B l.length c) l.length (sv l)]) (fun z _ => l.length - (intOf z).toNat)
                case atStart => exact ⟨0, by omega, rfl, s7⟩
                case round =>
                  clear s7
                  obtain ⟨c2, hc2, rfl, sr⟩ := hrel
                  by_cases hlt3 : c2 < l.length
                  · obtain ⟨i, hi⟩ : ∃ i, l[c2]? = some i := ⟨_, List.getElem?_eq_getElem hlt3⟩
                    have hii : (il (bitB y) j)[c2]? = some i := by rw [← HL.out]; exact hi
                    have hij := il_at hii
                    have hwi : wantB l.length (fs l) i = true := by rw [HWANT.out i hij.1]; exact hij.2
                    have hij := hij.1
                    obtain ⟨A2, cp2, hv2, _, _, _, hcell⟩ := sr.lis_cells 2 rfl
                    injection hv2 with e1 _ e2
                    subst e1; subst e2
                    obtain ⟨g2, off2, rfl, hcc⟩ := hcell.resolve_left (by omega)
                    have x0 := hcc c2 _ (sv_at hi)
                    obtain ⟨ib, off, rfl, p0, p1, p2, p3⟩ := hV.at_ rd sr.below hij
                    obtain ⟨_, _, e, q0, _, _, _⟩ := hV.at_ rd sr.below hbn
                    injection e with e; injection e with e1 e2; subst e1; subst e2
                    have hno := HMOST.out i hij hwi
                    obtain ⟨pr, hpr⟩ : ∃ pr, (bcOf j V 0).prio i = pr := ⟨_, rfl⟩
                    obtain ⟨pb, hpb⟩ : ∃ pb, (bcOf j V 0).prio bb = pb := ⟨_, rfl⟩
                    obtain ⟨bu, hbu⟩ : ∃ bu, (bcOf j V 0).burst i = bu := ⟨_, rfl⟩
                    obtain ⟨Bu, hBu⟩ : ∃ Bu, (bcOf j V 0).B i = Bu := ⟨_, rfl⟩
                    obtain ⟨Pe, hPe⟩ : ∃ Pe, (bcOf j V 0).P i = Pe := ⟨_, rfl⟩
                    rw [hpr, hpb, hbu, hBu, hPe] at hno
                    rw [hpr] at p0; rw [hbu] at p1; rw [hBu] at p2; rw [hPe] at p3; rw [hpb] at q0
                    have i0 : (0 : Int) ≤ (i : Int) := by omega
                    have i1 : (i : Int) < (j : Int) := by omega
                    have i2 : (0 : Int) ≤ (bb : Int) := by omega
                    have i3 : (bb : Int) < (j : Int) := by omega
                    have i4 : (0 : Int) ≤ (c2 : Int) := by omega
                    have i5 : (c2 : Int) < (l.length : Int) := by omega
                    have SR := Lib.hid sr
                    clear hcc hcell hii hi hwi hpr hpb hbu hBu hPe sr
                    by_cases h1 : pr < pb
                    · have d1 : decide (pr < pb) = true := decide_eq_true h1
                      by_cases h2 : bu = 0
                      · have d2 : (bu == 0) = true := beq_iff_eq.2 h2
                        have d3 : (Bu == Pe) = false := beq_eq_false_iff_ne.2 (hno h1 h2)
                        clear h1 h2 hno
                        go_wp2_with fail
                        go_quiet (fail)
                        go_wp2_with fail
                        go_roundw
                        case rel => exact ⟨c2 + 1, by omega, by go_num, SR.out.drewN _⟩
                        case measure => simp [intOf]; omega
                      · have d2 : (bu == 0) = false := beq_eq_false_iff_ne.2 h2
                        clear h1 h2 hno
                        go_wp2_with fail
                        go_quiet (fail)
                        go_wp2_with fail
                        go_roundw
                        case rel => exact ⟨c2 + 1, by omega, by go_num, SR.out.drewN _⟩
                        case measure => simp [intOf]; omega
                    · have d1 : decide (pr < pb) = false := decide_eq_false h1
                      clear h1 hno
                      go_wp2_with fail
                      go_quiet (fail)
                      go_wp2_with fail
                      go_roundw
                      case rel => exact ⟨c2 + 1, by omega, by go_num, SR.out.drewN _⟩
                      case measure => simp [intOf]; omega
                  · obtain rfl : c2 = l.length := by omega
                    have s8 : St w None wr [RBusR (bcOf j V 0) A cap r sb rp (k + 1) s', BusP (bcOf j V 0) b g mp s'] := St.take sr 2
                    clear sr
                    go_wp2
                    go_roundw
                    case rel => exact ⟨k + 1, s', by omega, by go_num, HU2.out, HO2.out, s8⟩
                    case measure => simp [intOf]; omega
        · obtain rfl : k = 120 := by omega
          go_wp2
          go_ret
          exact ⟨rfl, sr.below⟩

set_option maxRecDepth 100000 in
theorem lifted (os : Os) (started : os.Started) (H : Type) (enc : TypeId × Value → H) :
    ReturnsInHanded {} Try.checked os 6 .any (Rows.busUrgentSpec.pre6 enc Try.prog Try.f6 Rows.busUrgentRow.domain false) (Rows.busUrgentSpec.post enc Try.prog Try.f6 false true false false) := by
  refine law_lifted (C := Try.checked) (tb := 4) own started (by kernel_rfl) Try.func6
    (ChangeSpec.witness6 (enc := enc) (C := Try.checked) false ⟨#[], #[.slice none 0 0, .slice none 0 0], []⟩ 8 (by kernel_rfl) (by kernel_rfl) (by kernel_rfl) (by kernel_rfl)) laid (by kernel_rfl) (by kernel_rfl) Try.underlying4 rfl ?_
  intro W base args ds ps hval0 hA0 hlt
  have hval : ∀ (j : Nat) t v, Try.f6.params[j]? = some t → args[j]? = some v → Value.okWide Try.prog W .any base t v := hval0
  have hA : DataW.TrodAll enc Try.prog W 0 (fun _ => true) true Try.f6.params.toList args.toList ds ps := hA0
  clear hA0 hval0
  rw [Try.params6] at hA hval
  obtain ⟨v0, vs0, d0, ds0, p0, q0, hargs, rfl, rfl, h0, r0⟩ := trodAll_cons hA
  obtain ⟨v1, vs1, d1, ds1, p1, q1, rfl, rfl, rfl, h1, r1⟩ := trodAll_cons r0
  obtain ⟨rfl, rfl, rfl⟩ := trodAll_nil r1
  obtain rfl : args = #[v0, v1] := by cases args; simp_all
  obtain ⟨A0, n0, cap0, V0, rfl, le0, mx0, rd0, lf0⟩ := open_slice_spots (m := 4) (d := 20) (l := [(0, 3), (1, 3), (2, 23), (3, 23)]) Try.underlying22 (by kernel_rfl) (by decide) (by kernel_rfl) (hval 0 22 v0 rfl rfl) h0
  have f0_0 := fun j hj => leaf_int Try.underlying3 (lf0 0 3 (by simp) j hj)
  have f0_1 := fun j hj => leaf_int Try.underlying3 (lf0 1 3 (by simp) j hj)
  have f0_2 := fun j hj => leaf_int Try.underlying23 (lf0 2 23 (by simp) j hj)
  have f0_3 := fun j hj => leaf_int Try.underlying23 (lf0 3 23 (by simp) j hj)
  obtain ⟨A1, n1, cap1, f1, rfl, le1, mx1, wf1, rd1⟩ := open_slice_ints Try.underlying51 Try.underlying54 (by kernel_rfl) (hval 1 51 v1 rfl rfl) h1
  refine ⟨⟨rfl, rfl, rfl⟩, ?_⟩
  exact walk A0 n0 cap0 V0 A1 n1 cap1 f1 W (by omega) (by omega) rd0 (mvOf (ints f0_0) (ints f0_1) (ints f0_2) (ints f0_3)) rd1 wf1

theorem over : Rows.busUrgentRow.holds Try.pinned (OpenSpec.ofChange Rows.busUrgentSpec) :=
  OpenClaim.holds_of_wide 6 Try.f6 rfl rfl rfl rfl rfl rfl rfl ⟨rfl, rfl, rfl, rfl, rfl⟩ rfl rfl rfl rfl rfl (by kernel_rfl) Try.func6 (by kernel_rfl)
    (of_decide_eq_true (by kernel_rfl)) (by unfold Func.isWrapper; first | (rw [if_pos (by decide +kernel)]; kernel_rfl) | (rw [if_neg (by decide +kernel)]; exact ⟨rfl, rfl⟩))
    (fun os started H enc _ => lifted os started H enc)
theorem proved : Rows.BusUrgentSaid := over
#print axioms proved
end Go.Proofs.Ytabocojmobbpaaa.busUrgent
