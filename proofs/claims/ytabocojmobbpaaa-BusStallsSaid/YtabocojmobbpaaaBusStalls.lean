/-
  For all masters and wants BusStalls answers true, and changes nothing: in each slot all that want it but the one that has it are stalled once, and nobody else. No condition.
-/
import Derived.Test.YtabocojmobbpaaaRows
import Derived.Test.YtabocojmobbpaaaFr
import Derived.Test.YtabocojmobbpaaaBusW
import Derived.Test.YtabocojmobbpaaaOpen
import Derived.LoopTactic
namespace Go.Proofs.Ytabocojmobbpaaa.busStalls
open Go.ChangeShapes Go.WideShapes Go.ChangeAt Go.RowKit
set_option linter.unusedVariables false
theorem own : ownKnob Try.prog.godebug = none := by kernel_rfl
theorem laid : laidOutB Try.prog = true := by kernel_rfl
set_option maxRecDepth 100000
set_option maxHeartbeats 1000000
/-- Of the first c numbers those that hadn't the slot are counted. -/
def wK (st : Nat → Int) (l : List Nat) (f v : Int) (c i : Nat) : Int := if (∃ d, d < c ∧ l[d]? = some i) ∧ ¬ (f = 0 ∧ (i : Int) = v) then st i + 1 else st i
theorem wK_zero (st : Nat → Int) (l : List Nat) (f v : Int) : wK st l f v 0 = st := by funext i; simp [wK]
theorem wK_at {st : Nat → Int} {m : Nat → Bool} {n : Nat} {f v : Int} {c i : Nat} (h : (il m n)[c]? = some i) : wK st (il m n) f v c i = st i := by
  unfold wK
  rw [if_neg]
  rintro ⟨⟨d, hd, h2⟩, _⟩
  have := il_inj h h2
  omega
theorem wK_no {st : Nat → Int} {m : Nat → Bool} {n : Nat} {f v : Int} {c i : Nat} (h : (il m n)[c]? = some i) (hx : f = 0 ∧ (i : Int) = v) : wK st (il m n) f v (c + 1) = wK st (il m n) f v c := by
  funext j
  unfold wK
  by_cases e : j = i
  · subst e; rw [if_neg (fun g => g.2 hx), if_neg (fun g => g.2 hx)]
  · have : (∃ d, d < c + 1 ∧ (il m n)[d]? = some j) ↔ (∃ d, d < c ∧ (il m n)[d]? = some j) := by
      constructor
      · rintro ⟨d, hd, h2⟩
        have : d ≠ c := fun e2 => by subst e2; rw [h] at h2; injection h2 with h2; exact e h2.symm
        exact ⟨d, by omega, h2⟩
      · rintro ⟨d, hd, h2⟩; exact ⟨d, by omega, h2⟩
    simp only [this]
theorem wK_yes {st : Nat → Int} {m : Nat → Bool} {n : Nat} {f v : Int} {c i : Nat} (h : (il m n)[c]? = some i) (hx : ¬ (f = 0 ∧ (i : Int) = v)) : wK st (il m n) f v (c + 1) = upd (wK st (il m n) f v c) i (st i + 1) := by
  funext j
  unfold wK upd
  by_cases e : j = i
  · subst e; rw [if_pos ⟨⟨c, by omega, h⟩, hx⟩, if_pos rfl]
  · rw [if_neg e]
    have : (∃ d, d < c + 1 ∧ (il m n)[d]? = some j) ↔ (∃ d, d < c ∧ (il m n)[d]? = some j) := by
      constructor
      · rintro ⟨d, hd, h2⟩
        have : d ≠ c := fun e2 => by subst e2; rw [h] at h2; injection h2 with h2; exact e h2.symm
        exact ⟨d, by omega, h2⟩
      · rintro ⟨d, hd, h2⟩; exact ⟨d, by omega, h2⟩
    simp only [this]
theorem wK_end {st : Nat → Int} {m want : Nat → Bool} {n : Nat} {f v b : Int} {i : Nat} (hi : i < n) (hw : want i = m i) (hb : (f = 0 ∧ b = v) ∨ (f ≠ 0 ∧ b = -1)) : wK st (il m n) f v (il m n).length i = stl st want b i := by
  unfold wK stl
  rw [hw]
  have key : ((∃ d, d < (il m n).length ∧ (il m n)[d]? = some i) ∧ ¬ (f = 0 ∧ (i : Int) = v)) ↔ (m i = true ∧ (i : Int) ≠ b) := by
    constructor
    · rintro ⟨⟨d, hd, h⟩, hx⟩
      refine ⟨(il_at h).2, ?_⟩
      rcases hb with ⟨h1, h2⟩ | ⟨h1, h2⟩
      · intro e; exact hx ⟨h1, by omega⟩
      · omega
    · rintro ⟨h1, h2⟩
      obtain ⟨d, hd⟩ := il_of hi h1
      refine ⟨⟨d, (List.getElem?_eq_some_iff.1 hd).1, hd⟩, ?_⟩
      rintro ⟨h3, h4⟩
      rcases hb with ⟨h5, h6⟩ | ⟨h5, h6⟩
      · omega
      · exact h5 h3
  by_cases h : m i = true ∧ (i : Int) ≠ b
  · rw [if_pos (key.2 h), if_pos h]
  · rw [if_neg (fun g => h (key.1 g)), if_neg h]
theorem slot_stl {C : BC} {s s' : BS} {k : Nat} {want : Nat → Bool} {v f : Int} (hk : k < 100) (hn : s.next = k) (hR : SlotR C s k true want v f s') : s'.next = ((k + 1 : Nat) : Int) ∧ ∃ b, s'.st = stl s.st want b ∧ ((f = 0 ∧ b = v) ∨ (f ≠ 0 ∧ b = -1)) := by
  rcases hR with ⟨g, _⟩ | ⟨_, g, _⟩ | ⟨_, _, _, _, rfl, rfl, rfl⟩ | ⟨_, _, _, b, hb, _, rfl, rfl, rfl⟩
  · omega
  · exact absurd ⟨rfl, by omega⟩ g
  · exact ⟨by show (k : Int) + 1 = _; omega, _, rfl, Or.inr ⟨by omega, rfl⟩⟩
  · exact ⟨by show (k : Int) + 1 = _; omega, _, rfl, Or.inl ⟨rfl, rfl⟩⟩
theorem walk (A : Option Addr) (n cap : Nat) (V : Nat → Nat → Value) (A' : Option Addr) (n1 cap1 : Nat) (f1 : Nat → Int) (w : World) (hm : n ≤ maxLen) (hm1 : n1 ≤ maxLen) (rd : RdM w A n 4 V) (hV : MV (bcOf n V 0) V)
    (rd1 : Rd w A' n1 (fun i => .int .u16 (f1 i))) (w1 : ∀ i, (Lit.int .u16 (f1 i)).wf = true) :
    Calls Try.prog 7 #[.slice A n cap, .slice A' n1 cap1] w fun r w' => r = .returned (.bool true) ∧ Below w.heap.size w w' := by
  go_enter Try.func7, Try.ntmps7
  go_wp2_with fail
  refine (bawake _).mono ?_
  rintro e w2 ⟨rfl, hw2⟩
  have rdw : RdM w2 A (bcOf n V 0).n 4 V := fun h => by
    obtain ⟨b, off, e, hlt, hc⟩ := rd h
    exact ⟨b, off, e, Nat.lt_of_lt_of_le hlt hw2.size, fun j hj i hi => (hw2.cell (p := ⟨b, off + (j * 4 + i), none⟩) hlt).trans (hc j hj i hi)⟩
  obtain ⟨x, hx1, hx2, hxc⟩ := all_any (C := bcOf n V 0) (cap := cap) w2 hm rdw hV
  cases x with
  | false =>
    go_wp2_with fail
    refine hxc.mono ?_
    rintro e w3 ⟨rfl, hw3⟩
    go_wp2_with fail
    go_ret
    exact ⟨rfl, below_then hw2 hw3⟩
  | true =>
    obtain ⟨g1, g16, gok⟩ := hx1 rfl
    have HC := Lib.hid (bc_ok (C := bcOf n V 0) (ph := 0) g1 g16 gok rfl (by omega))
    clear hx1 hx2 gok
    have g1 : 1 ≤ n := g1
    have g16 : n ≤ 16 := g16
    go_wp2_with fail
    refine hxc.mono ?_
    rintro e w3 ⟨rfl, hw3⟩
    clear hxc
    have hw3b := below_then hw2 hw3
    by_cases hn1 : n1 = 0
    · subst hn1
      go_wp2_with fail
      go_ret
      exact ⟨rfl, hw3b⟩
    · have z0 : ((n1 : Int) == 0) = false := beq_eq_false_iff_ne.2 (by omega)
      have s0 : St w None w3 [] := (St.begin w).stay hw3b
      have rdw3 : RdM w3 A n 4 V := fun h => by
        obtain ⟨b, off, e, hlt, hc⟩ := rd h
        exact ⟨b, off, e, Nat.lt_of_lt_of_le hlt hw3b.size, fun j hj i hi => (hw3b.cell (p := ⟨b, off + (j * 4 + i), none⟩) hlt).trans (hc j hj i hi)⟩
      go_wp2_with fail
      refine (bnew2 (n := n) HC.out rfl rfl hV s0 rdw3).mono ?_
      rintro e w4 ⟨b, g, mp, rfl, s4⟩
      obtain ⟨iI, hiI, hzI, hsI, hbI⟩ := info_parts Try.infoI
      have mI := fun W => run_make_rowN (P := Try.prog) 38 3 iI (.int .i64 0) Try.underlying38 hiI hzI rfl hsI .i64 .i64 n (by rw [hbI]; omega) (by omega) W
      have s5 := s4.made_row 3 n (.int .i64 0)
      have H0 := Lib.hid (bs0_ok HC.out)
      go_wp2_with fail
      clear mI s4
      generalize w4.heap.size = wb at *
      go_loopw [8] (fun t wr => ∃ (k : Nat) (s : BS), k ≤ 100 ∧ t = .int .u64 k ∧ s.next = k ∧ s.OK (bcOf n V 0) k ∧ St w None wr [BusP (bcOf n V 0) b g mp s, ArrR wb 3 n (fun i => .int .i64 (s.st i))]) (fun t _ => 100 - (intOf t).toNat)
      case atStart => exact ⟨0, _, by omega, rfl, rfl, H0.out, s5⟩
      case round =>
        clear s5
        obtain ⟨k, s, hk, rfl, hnx, hO, sr⟩ := hrel
        by_cases hlt : k < 100
        · have HN := Lib.hid hnx
          have HO := Lib.hid hO
          clear hnx hO
          have d0 : decide ((k : Int) < 100) = true := decide_eq_true (by omega)
          obtain ⟨j1, hj1⟩ : ∃ j1 : Nat, (k : Int) % (n1 : Int) = j1 := ⟨k % n1, by simp⟩
          have hj1n : j1 < n1 := by have := Int.emod_lt_of_pos (k : Int) (show (0 : Int) < n1 by omega); omega
          obtain ⟨y, hy⟩ : ∃ y, f1 j1 = y := ⟨_, rfl⟩
          have by1 := bounds_u16 (w1 j1)
          rw [hy] at by1
          have HY := Lib.hid hy
          clear hy
          go_wp2_with fail
          go_loopw [9, 10] (fun l id wx => ∃ j : Nat, j ≤ n ∧ id = .int .i64 j ∧ ∃ B c, l = .slice B (2 * (il (bitB y) j).length) c ∧ St w None wx [BusP (bcOf n V 0) b g mp s, ArrR wb 3 n (fun i => .int .i64 (s.st i)), LisR 3 1 l (2 * (il (bitB y) j).length) (dv (il (bitB y) j))]) (fun _ id _ => n - (intOf id).toNat)
          case atStart => exact ⟨0, by omega, rfl, none, 0, rfl, sr.lis_nil _ _⟩
          case round =>
            clear sr
            obtain ⟨j, hj, rfl, B, c, rfl, sr⟩ := hrel
            have hl0 := il_len (bitB y) j
            by_cases hlt2 : j < n
            · obtain ⟨ib, off, rfl, hib, hcell⟩ := rd1.below sr.below (Nat.le_refl _) (by omega)
              have ck := hcell j1 hj1n
              dsimp only at ck
              rw [HY.out] at ck
              clear hcell
              cases hb : bitB y j with
              | false =>
                have hb' : (bits BinOp.and IntKind.u16 (y / 2 ^ j) 1 == 1) = false := hb
                have HI := Lib.hid (il_no hb)
                obtain ⟨q, hq⟩ : ∃ q, 2 * (il (bitB y) j).length = q := ⟨_, rfl⟩
                rw [hq] at sr
                have SR := Lib.hid sr
                have HL := Lib.hid hq
                rw [hq]
                clear hq hb sr
                go_wp2
                go_roundw
                case rel => exact ⟨j + 1, by omega, by go_num, B, c, by rw [HI.out, HL.out], by rw [HI.out, HL.out]; exact SR.out⟩
                case measure => simp [intOf]; omega
              | true =>
                have hb' : (bits BinOp.and IntKind.u16 (y / 2 ^ j) 1 == 1) = true := hb
                have HI := Lib.hid (il_yes hb)
                clear hb
                obtain ⟨q, hq⟩ : ∃ q, 2 * (il (bitB y) j).length = q := ⟨_, rfl⟩
                rw [hq] at sr
                have HQ := Lib.hid hq
                have hq2 : q ≤ 2 * n := by omega
                rw [hq]
                clear hq
                have s4 := sr.alloc (.cells #[.int .i64 j] 3)
                have hl4 := s4.lis 2 rfl
                have hr4 := rds_box wr 3 (.int .i64 j)
                clear sr
                go_wp2_with (first
                  | (at_builtin; refine wpList_lis rfl (.tmp 62) (.tmp 64) 38 rfl 3 iI (.int .i64 0) 1 8 Try.underlying38 hiI hzI hsI hbI rfl (by decide) _ _ _ rfl hl4 (some ⟨wr.heap.size, 0, none⟩) 1 1 [.int .i64 j] rfl hr4 (by simp [Value.oneCell']) (by unfold maxLen; omega) (by omega) ?_; intro B6 cap6 w6 hl6 hg6 hat6; have s6 : St w None w6 [BusP (bcOf n V 0) b g mp s, ArrR wb 3 n (fun i => .int .i64 (s.st i)), _] := s4.lis_put 2 rfl hl6 hg6 hat6; have s7 := s6.alloc (.cells #[.int .i64 j] 3); have hl7 := s7.lis 2 rfl; have hr7 := rds_box w6 3 (.int .i64 j); clear s6 hl6 hg6 hat6)
                  | (at_builtin; refine wpList_lis rfl (.tmp 66) (.tmp 68) 38 rfl 3 iI (.int .i64 0) 1 8 Try.underlying38 hiI hzI hsI hbI rfl (by decide) _ _ _ rfl hl7 (some ⟨w6.heap.size, 0, none⟩) 1 1 [.int .i64 j] rfl hr7 (by simp [Value.oneCell']) (by unfold maxLen; omega) (by omega) ?_; intro B8 cap8 w8 hl8 hg8 hat8; have s8 : St w None w8 [BusP (bcOf n V 0) b g mp s, ArrR wb 3 n (fun i => .int .i64 (s.st i)), _] := s7.lis_put 2 rfl hl8 hg8 hat8; clear hl8 hg8 hat8))
                go_roundw
                case rel =>
                  refine ⟨j + 1, by omega, by go_num, B8, cap8, ?_, ?_⟩
                  · rw [HI.out]; simp only [List.length_append, List.length_singleton, Nat.mul_add, HQ.out]
                  · rw [HI.out, dv_app]; simp only [List.length_append, List.length_singleton, Nat.mul_add, HQ.out]
                    simpa [List.append_assoc] using s8
                case measure => simp [intOf]; omega
            · obtain rfl : j = n := by omega
              obtain ⟨l, hl⟩ : ∃ l, l = il (bitB y) j := ⟨_, rfl⟩
              rw [← hl] at sr hl0
              rw [← hl]
              have hlis := rd_dv (sr.lis 2 rfl)
              have hok : okB (2 * l.length) (fd l) (bcOf j V 0).n = true := okB_of hl (fd_ok l).1
              obtain ⟨v, f, s', hR⟩ := slotR_ex (bcOf j V 0) s k (okB (2 * l.length) (fd l) (bcOf j V 0).n) (wantB (2 * l.length) (fd l))
              have hR2 := hR
              rw [hok] at hR2
              obtain ⟨hn2, bb, hst, hbb⟩ := slot_stl hlt HN.out hR2
              have HEND := Lib.hid (fun (i : Nat) (hi : i < j) => show wK s.st l f v l.length i = s'.st i by rw [hst, hl]; exact wK_end hi (by rw [← hl]; exact want_of hl (fd_ok l).1 (fd_ok l).2 hi) hbb)
              have HO2 := Lib.hid (hR.next HO.out)
              have HR := Lib.hid hR
              have HN2 := Lib.hid hn2
              have HL := Lib.hid hl
              have hst0 := HO.out.st
              have hf05 : f = 0 ∨ f ≠ 0 := by omega
              clear hR hR2 hst hbb hok hn2 hl
              go_wp2_with fail
              refine (Slot_o sr 0 rfl HC.out HO.out (by omega) (by omega) (by unfold maxLen; omega) hlis HR.out).mono ?_
              rintro e w6 ⟨rfl, s6'⟩
              have s6 : St w None w6 [BusP (bcOf j V 0) b g mp s', ArrR wb 3 j (fun i => .int .i64 (wK s.st l f v 0 i)), LisR 3 1 (.slice B (2 * l.length) c) (2 * l.length) (dv l)] := by rw [wK_zero]; exact s6'
              clear s6' sr hlis
              have hlj : l.length ≤ j := hl0
              go_wp2_with fail
              go_loopw [13] (fun z wx => ∃ c2 : Nat, c2 ≤ l.length ∧ z = .int .i64 ((2 * c2 : Nat) : Int) ∧ St w None wx [BusP (bcOf j V 0) b g mp s', ArrR wb 3 j (fun i => .int .i64 (wK s.st l f v c2 i)), LisR 3 1 (.slice B (2 * l.length) c) (2 * l.length) (dv l)]) (fun z _ => 2 * l.length - (intOf z).toNat)
              case atStart => exact ⟨0, by omega, rfl, s6⟩
              case round =>
                clear s6
                obtain ⟨c2, hc2, rfl, sr⟩ := hrel
                by_cases hlt3 : c2 < l.length
                · obtain ⟨i, hi⟩ : ∃ i, l[c2]? = some i := ⟨_, List.getElem?_eq_getElem hlt3⟩
                  have hii : (il (bitB y) j)[c2]? = some i := by rw [← HL.out]; exact hi
                  have hij := (il_at hii).1
                  obtain ⟨A2, cp2, hv2, _, _, _, hcell⟩ := sr.lis_cells 2 rfl
                  injection hv2 with e1 _ e2
                  subst e1; subst e2
                  obtain ⟨g2, off2, rfl, hcc⟩ := hcell.resolve_left (by omega)
                  have x0 := hcc (2 * c2) _ (dv_at (by rw [show 2 * c2 / 2 = c2 by omega]; exact hi))
                  have x1 := sr.arr_cell 1 rfl hij
                  have x2 := sr.arr_frozen 1 rfl i
                  have hK := wK_at (st := s.st) (f := f) (v := v) hii
                  rw [← HL.out] at hK
                  rw [hK] at x1
                  have bst := hst0 i hij
                  have i0 : (0 : Int) ≤ (i : Int) := by omega
                  have i1 : (i : Int) < (j : Int) := by omega
                  clear hcc hcell hK
                  have yes : ¬ (f = 0 ∧ (i : Int) = v) → Hid (St w None (wr.setCell ⟨wb, i, none⟩ (.int .i64 (s.st i + 1))) [BusP (bcOf j V 0) b g mp s', ArrR wb 3 j (fun i => .int .i64 (wK s.st l f v (c2 + 1) i)), LisR 3 1 (.slice (some ⟨g2, off2, none⟩) (2 * l.length) c) (2 * l.length) (dv l)]) := fun hx => Lib.hid (by
                    have h1 := sr.arr_set 1 rfl hij (.int .i64 (s.st i + 1))
                    have h2 := h1.arr_like (V' := fun q => .int .i64 (wK s.st l f v (c2 + 1) q)) 1 rfl (fun q hq => by
                      have := wK_yes (st := s.st) hii hx
                      rw [← HL.out] at this
                      rw [this]; unfold upd; split <;> rfl)
                    exact h2)
                  have no : f = 0 ∧ (i : Int) = v → Hid (St w None wr [BusP (bcOf j V 0) b g mp s', ArrR wb 3 j (fun i => .int .i64 (wK s.st l f v (c2 + 1) i)), LisR 3 1 (.slice (some ⟨g2, off2, none⟩) (2 * l.length) c) (2 * l.length) (dv l)]) := fun hx => Lib.hid (by
                    have := wK_no (st := s.st) hii hx
                    rw [← HL.out] at this
                    rw [this]; exact sr)
                  have YES := Lib.hid yes
                  have NO := Lib.hid no
                  clear yes no sr hi hii
                  by_cases hf : f = 0
                  · by_cases hv : (i : Int) = v
                    · have HS := NO.out ⟨hf, hv⟩
                      subst hf
                      have d2 : ((i : Int) != v) = false := by simp [bne, hv]
                      clear hv NO YES
                      go_wp2
                      go_roundw
                      case rel => exact ⟨c2 + 1, by omega, by go_num, HS.out⟩
                      case measure => simp [intOf]; omega
                    · have HS := YES.out (fun h => hv h.2)
                      subst hf
                      have d2 : ((i : Int) != v) = true := by simp [bne, hv]
                      clear hv NO YES
                      go_wp2
                      go_roundw
                      case rel => exact ⟨c2 + 1, by omega, by go_num, HS.out⟩
                      case measure => simp [intOf]; omega
                  · have HS := YES.out (fun h => hf h.1)
                    have d2 : (f != 0) = true := by simp [bne, hf]
                    clear hf NO YES
                    go_wp2
                    go_roundw
                    case rel => exact ⟨c2 + 1, by omega, by go_num, HS.out⟩
                    case measure => simp [intOf]; omega
                · obtain rfl : c2 = l.length := by omega
                  have s7 : St w None wr [BusP (bcOf j V 0) b g mp s', ArrR wb 3 j (fun i => .int .i64 (s'.st i))] := (sr.arr_like (V' := fun i => .int .i64 (s'.st i)) 1 rfl (fun q hq => by rw [HEND.out q hq])).take 2
                  clear sr HEND
                  go_wp2_with fail
                  go_loopw [14] (fun z wx => ∃ c3 : Nat, c3 ≤ j ∧ z = .int .i64 c3 ∧ St w None wx [BusP (bcOf j V 0) b g mp s', ArrR wb 3 j (fun i => .int .i64 (s'.st i))]) (fun z _ => j - (intOf z).toNat)
                  case atStart => exact ⟨0, by omega, rfl, s7⟩
                  case round =>
                    clear s7
                    obtain ⟨c3, hc3, rfl, sr⟩ := hrel
                    by_cases hlt4 : c3 < j
                    · haveI : Nonempty (Within (fun wx => St w None wx [BusP (bcOf j V 0) b g mp s', ArrR wb 3 j (fun i => .int .i64 (s'.st i))])) := ⟨⟨_, sr⟩⟩
                      have z1 : ∀ u : Within (fun wx => St w None wx [BusP (bcOf j V 0) b g mp s', ArrR wb 3 j (fun i => .int .i64 (s'.st i))]), u.w.cell? ⟨wb, c3, none⟩ = some (.int .i64 (s'.st c3)) := fun u => u.h.arr_cell 1 rfl hlt4
                      have i0 : (0 : Int) ≤ (c3 : Int) := by omega
                      have i1 : (c3 : Int) < (j : Int) := by omega
                      have SR := Lib.hid sr
                      clear sr
                      go_wp2_with fail
                      refine wp_region_in (fun wx => St w None wx [BusP (bcOf j V 0) b g mp s', ArrR wb 3 j (fun i => .int .i64 (s'.st i))]) (by kernel_rfl) (by kernel_rfl) SR.out.drew ?_
                      repeat (go_big_quiet_step ((go_at_call 19; exact in_call (p := fun wx => St w None wx [BusP (bcOf j V 0) b g mp s', ArrR wb 3 j (fun i => .int .i64 (s'.st i))]) (stalls_yes (Within.h (p := fun wx => St w None wx [BusP (bcOf j V 0) b g mp s', ArrR wb 3 j (fun i => .int .i64 (s'.st i))]) _) 0 rfl HC.out c3 hlt4))))
                      refine wpQuiet_nil ?_
                      rintro _ ⟨⟨wq, sq⟩, rfl⟩
                      have dq : (s'.st c3 != s'.st c3) = false := by simp [bne]
                      go_wp2
                      go_roundw
                      case rel => exact ⟨c3 + 1, by omega, by go_num, sq⟩
                      case measure => simp [intOf]; omega
                    · go_wp2
                      go_roundw
                      case rel => exact ⟨k + 1, s', by omega, by go_num, HN2.out, HO2.out, sr⟩
                      case measure => simp [intOf]; omega
        · obtain rfl : k = 100 := by omega
          go_wp2_with fail
          refine (stalls_no sr 0 rfl HC.out (-1) (by omega)).mono ?_
          rintro e w8 ⟨rfl, s8⟩
          go_wp2_with fail
          refine (stalls_no s8 0 rfl HC.out (n : Int) (by show ¬ (0 ≤ (n : Int) ∧ (n : Int) < (n : Int)); omega)).mono ?_
          rintro e w9 ⟨rfl, s9⟩
          go_wp2
          go_ret
          exact ⟨rfl, s9.below⟩

set_option maxRecDepth 100000 in
theorem lifted (os : Os) (started : os.Started) (H : Type) (enc : TypeId × Value → H) :
    ReturnsInHanded {} Try.checked os 7 .any (Rows.busStallsSpec.pre6 enc Try.prog Try.f7 Rows.busStallsRow.domain false) (Rows.busStallsSpec.post enc Try.prog Try.f7 false true false false) := by
  refine law_lifted (C := Try.checked) (tb := 4) own started (by kernel_rfl) Try.func7
    (ChangeSpec.witness6 (enc := enc) (C := Try.checked) false ⟨#[], #[.slice none 0 0, .slice none 0 0], []⟩ 8 (by kernel_rfl) (by kernel_rfl) (by kernel_rfl) (by kernel_rfl)) laid (by kernel_rfl) (by kernel_rfl) Try.underlying4 rfl ?_
  intro W base args ds ps hval0 hA0 hlt
  have hval : ∀ (j : Nat) t v, Try.f7.params[j]? = some t → args[j]? = some v → Value.okWide Try.prog W .any base t v := hval0
  have hA : DataW.TrodAll enc Try.prog W 0 (fun _ => true) true Try.f7.params.toList args.toList ds ps := hA0
  clear hA0 hval0
  rw [Try.params7] at hA hval
  obtain ⟨v0, vs0, d0, ds0, p0, q0, hargs, rfl, rfl, h0, r0⟩ := trodAll_cons hA
  obtain ⟨v1, vs1, d1, ds1, p1, q1, rfl, rfl, rfl, h1, r1⟩ := trodAll_cons r0
  obtain ⟨rfl, rfl, rfl⟩ := trodAll_nil r1
  obtain rfl : args = #[v0, v1] := by cases args; simp_all
  obtain ⟨A0, n0, cap0, V0, rfl, le0, mx0, rd0, lf0⟩ := open_slice_spots (m := 4) (d := 20) (l := [(0, 3), (1, 3), (2, 23), (3, 23)]) Try.underlying22 (by kernel_rfl) (by decide) (by kernel_rfl) (hval 0 22 v0 rfl rfl) h0
  have f0_0 := fun j hj => leaf_int Try.underlying3 (lf0 0 3 (by simp) j hj)
  have f0_1 := fun j hj => leaf_int Try.underlying3 (lf0 1 3 (by simp) j hj)
  have f0_2 := fun j hj => leaf_int Try.underlying23 (lf0 2 23 (by simp) j hj)
  have f0_3 := fun j hj => leaf_int Try.underlying23 (lf0 3 23 (by simp) j hj)
  obtain ⟨A1, n1, cap1, f1, rfl, le1, mx1, wf1, rd1⟩ := open_slice_ints Try.underlying51 Try.underlying54 (by kernel_rfl) (hval 1 51 v1 rfl rfl) h1
  refine ⟨⟨rfl, rfl, rfl⟩, ?_⟩
  exact walk A0 n0 cap0 V0 A1 n1 cap1 f1 W (by omega) (by omega) rd0 (mvOf (ints f0_0) (ints f0_1) (ints f0_2) (ints f0_3)) rd1 wf1

theorem over : Rows.busStallsRow.holds Try.pinned (OpenSpec.ofChange Rows.busStallsSpec) :=
  OpenClaim.holds_of_wide 7 Try.f7 rfl rfl rfl rfl rfl rfl rfl ⟨rfl, rfl, rfl, rfl, rfl⟩ rfl rfl rfl rfl rfl (by kernel_rfl) Try.func7 (by kernel_rfl)
    (of_decide_eq_true (by kernel_rfl)) (by unfold Func.isWrapper; first | (rw [if_pos (by decide +kernel)]; kernel_rfl) | (rw [if_neg (by decide +kernel)]; exact ⟨rfl, rfl⟩))
    (fun os started H enc _ => lifted os started H enc)
theorem proved : Rows.BusStallsSaid := over
#print axioms proved
end Go.Proofs.Ytabocojmobbpaaa.busStalls
