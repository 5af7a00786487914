/-
  For every size and every slice of bytes TableLeast answers true, and changes nothing: a value is put into the least free slot; all handles are told by rising slots. No condition.
-/
import Derived.Test.YtlpmnpmgehjmaaaRows
import Derived.Test.YtlpmnpmgehjmaaaFr
import Derived.Test.YtlpmnpmgehjmaaaTabL
import Derived.Test.YtlpmnpmgehjmaaaRd
import Derived.LoopTactic
namespace Go.Proofs.Ytlpmnpmgehjmaaa.tableLeast
open Go.ChangeShapes Go.WideShapes Go.ChangeAt Go.RowKit
set_option linter.unusedVariables false
theorem own : ownKnob Try.prog.godebug = none := by kernel_rfl
theorem laid : laidOutB Try.prog = true := by kernel_rfl
set_option maxRecDepth 100000
set_option maxHeartbeats 1000000
theorem Ytlpmnpmgehjmaaab : (Try.prog.info? 4).map (fun i => (i.zero, i.size, i.bytes)) = some (some (.bool false), 1, 1) := by kernel_rfl
/-- Which slots are free, as bools. -/
def fr (st : Nat → Option Int) : Nat → Value := fun j => .bool (st j).isNone
theorem fr_drop (st : Nat → Option Int) (k : Nat) : (fun j => if j = k then Value.bool true else fr st j) = fr (fun j => if j = k then none else st j) := by funext j; unfold fr; dsimp only; by_cases e : j = k <;> simp [e]
theorem fr_put (st : Nat → Option Int) (k : Nat) (x : Int) : (fun j => if j = k then Value.bool false else fr st j) = fr (fun j => if j = k then some x else st j) := by funext j; unfold fr; dsimp only; by_cases e : j = k <;> simp [e]
/-- While the handles are gone through: those ahead are as they were told; slot k is free, or stands ahead. -/
structure Go (n k : Nat) (gen0 : Nat → Int) (st0 : Nat → Option Int) (j : Nat) (gen : Nat → Int) (st : Nat → Option Int) : Prop where
  keep : ∀ j' i, j ≤ j' → (us st0 n)[j']? = some i → gen i = gen0 i ∧ st i = st0 i
  free : st k = none ∨ ∃ j', j ≤ j' ∧ (us st0 n)[j']? = some k
theorem Go.start {n k : Nat} {gen0 : Nat → Int} {st0 : Nat → Option Int} (hk : k < n) : Go n k gen0 st0 0 gen0 st0 := by
  refine ⟨fun _ _ _ _ => ⟨rfl, rfl⟩, ?_⟩
  cases h : st0 k with
  | none => exact Or.inl rfl
  | some v =>
    obtain ⟨j, hj, e⟩ := List.mem_iff_getElem.1 ((us_mem (st := st0) (n := n) (i := k)).2 ⟨hk, by rw [h]; rfl⟩)
    exact Or.inr ⟨j, Nat.zero_le _, by rw [List.getElem?_eq_getElem hj, e]⟩
theorem us_inj {st : Nat → Option Int} {n j j' i : Nat} (h : (us st n)[j]? = some i) (h' : (us st n)[j']? = some i) : j = j' := by
  have hp := List.pairwise_iff_getElem.1 (us_sorted st n)
  obtain ⟨b1, c1⟩ := List.getElem?_eq_some_iff.1 h
  obtain ⟨b2, c2⟩ := List.getElem?_eq_some_iff.1 h'
  rcases Nat.lt_trichotomy j j' with h | h | h
  · have := hp j j' b1 b2 h; omega
  · exact h
  · have := hp j' j b2 b1 h; omega
theorem Go.skip {n k j i : Nat} {gen0 gen : Nat → Int} {st0 st : Nat → Option Int} (h : Go n k gen0 st0 j gen st) (hj : (us st0 n)[j]? = some i) (hne : i ≠ k) : Go n k gen0 st0 (j + 1) gen st :=
  ⟨fun j' i hj' => h.keep j' i (by omega), h.free.imp id fun ⟨j', h1, h2⟩ => ⟨j', by
    rcases Nat.lt_or_ge j j' with h3 | h3
    · exact h3
    · obtain rfl : j' = j := by omega
      rw [hj] at h2; injection h2 with h2; exact absurd h2 hne, h2⟩⟩
theorem Go.hit {n k j : Nat} {gen0 gen : Nat → Int} {st0 st : Nat → Option Int} (h : Go n k gen0 st0 j gen st) (hj : (us st0 n)[j]? = some k) :
    ∃ v, DropR n gen st k (gen0 k) v 0 (fun i => if i = k then gen k + 1 else gen i) (fun i => if i = k then none else st i) ∧ Go n k gen0 st0 (j + 1) (fun i => if i = k then gen k + 1 else gen i) (fun i => if i = k then none else st i) := by
  obtain ⟨h1, h2⟩ := h.keep j k (Nat.le_refl _) hj
  have hm : k ∈ us st0 n := List.mem_of_getElem? hj
  obtain ⟨hk, hs⟩ := us_mem.1 hm
  obtain ⟨v, hv⟩ := Option.isSome_iff_exists.1 hs
  refine ⟨v, Or.inl ⟨k, hk, rfl, h1.symm, by rw [h2, hv], rfl, rfl, rfl⟩, fun j' i hj' hi => ?_, Or.inl (by simp)⟩
  have hne : i ≠ k := fun e => by subst e; have := us_inj hj hi; omega
  simp only [if_neg hne]
  exact h.keep j' i (by omega) hi
theorem Go.done {n k j : Nat} {gen0 gen : Nat → Int} {st0 st : Nat → Option Int} (h : Go n k gen0 st0 j gen st) (hj : cnt st0 n ≤ j) : st k = none := by
  rcases h.free with h | ⟨j', h1, h2⟩
  · exact h
  · rw [List.getElem?_eq_none (by rw [us_len]; omega)] at h2; cases h2
theorem ff_ex {n k : Nat} {st : Nat → Option Int} (hk : k < n) (h : st k = none) : ∃ m, m < n ∧ (∀ j, j < m → ∃ v, st j = some v) ∧ st m = none := by
  by_cases hf : ff st n < n
  · exact ⟨_, hf, fun j hj => ff_used st n j hj, ff_free st n hf⟩
  · obtain ⟨v, hv⟩ := ff_used st n k (by omega)
    rw [h] at hv; cases hv
theorem walk (a : Int) (A : Option Addr) (q cap : Nat) (f : Nat → Int) (w : World) (ba : 0 ≤ a ∧ a ≤ 255) (hm : q ≤ maxLen) (rd : Rd w A q (fun i => .int .u8 (f i))) (hf : ∀ i, 0 ≤ f i ∧ f i ≤ 255) :
    Calls Try.prog 7 #[.int .u8 a, .slice A q cap] w fun r w' => r = .returned (.bool true) ∧ Below w.heap.size w w' := by
  unfold maxLen at hm
  have g0 : 0 ≤ a % 30 := Int.emod_nonneg _ (by omega)
  have g1 : a % 30 < 30 := Int.emod_lt_of_pos _ (by omega)
  obtain ⟨n, hn⟩ : ∃ n : Nat, 1 + a % 30 = (n : Int) := ⟨(1 + a % 30).toNat, by omega⟩
  have n1 : 1 ≤ n := by omega
  have n2 : n ≤ 30 := by omega
  have hn2 : n ≤ 1000 := by omega
  have HN := Lib.hid hn
  clear hn
  by_cases hq : 60 < q
  · go_enter Try.func7, Try.ntmps7
    go_wp2_with fail
    refine (awake_o (St.begin w)).mono ?_
    rintro r w1 ⟨rfl, s1⟩
    go_wp2_with fail
    rw [HN.out]
    refine (New_o s1 n1 hn2).mono ?_
    rintro r w2 ⟨t, rfl, s2⟩
    go_wp2
    go_ret
    exact ⟨rfl, s2.below⟩
  · have dq : decide (60 < (q : Int)) = false := decide_eq_false (by omega)
    obtain ⟨i0, hi, hz0, hz1, hz2⟩ := info_parts Ytlpmnpmgehjmaaab
    go_enter Try.func7, Try.ntmps7
    go_wp2_with fail
    refine (awake_o (St.begin w)).mono ?_
    rintro r w1 ⟨rfl, s1⟩
    go_wp2_with fail
    rw [HN.out]
    refine (New_o s1 n1 hn2).mono ?_
    rintro r w2 ⟨t, rfl, s2⟩
    clear HN g0 g1
    rw [upto_zero] at s2
    go_wp2_with fail
    go_loopw [8] (fun x wr => ∃ i : Nat, i ≤ n ∧ x = .int .i64 i ∧ St w None wr [TabR t n (fun _ => 1) (upto i)]) (fun x _ => n - (intOf x).toNat)
    case atStart => exact ⟨0, by omega, rfl, s2⟩
    case round =>
      clear s2 s1
      obtain ⟨i, hi', rfl, sr⟩ := hrel
      by_cases hlt : i < n
      · have hP := Put_o1 (x := i) sr 0 rfl i hn2 hlt (fun j hj => ⟨j, by simp [upto, hj]⟩) (by simp [upto])
        rw [upto_succ] at hP
        have HP := Lib.hid hP
        clear hP sr
        go_wp2_with fail
        refine HP.out.mono ?_
        rintro e w6 ⟨rfl, s6⟩
        go_wp2
        go_roundw
        case rel => exact ⟨i + 1, by omega, by go_num, s6⟩
        case measure => simp [intOf]; omega
      · obtain rfl : i = n := by omega
        clear hlt hi'
        go_wp2_with (refine wpList_make_full _ rfl _ _ 53 rfl wr.heap.size 4 i0 (.bool false) 1 Try.underlying53 hi hz0 hz1 .i64 .i64 i i i rfl rfl rfl rfl (by rw [hz2]; omega) (by unfold maxLen; omega) (Nat.le_refl _) ?_; intro w3 hown hgrow)
        have s3' : St w None w3 [_, _] := sr.make rfl hown hgrow
        have s3 : St w None w3 [_, ArrR wr.heap.size 4 i (fr (upto i))] := s3'.arr_like 1 rfl fun j hj => by simp [fr, upto, hj]
        generalize wr.heap.size = fb at *
        clear s3' hown hgrow hi hz0 hz1 hz2 sr
        obtain ⟨n, rfl⟩ : ∃ n, n = i := ⟨_, rfl⟩
        go_loopw [10] (fun x wr => ∃ (k : Nat) (gen : Nat → Int) (st : Nat → Option Int), k ≤ q ∧ x = .int .i64 k ∧ (∀ j, j < n → 0 ≤ gen j ∧ gen j ≤ 1 + 30 * k) ∧ St w None wr [TabR t n gen st, ArrR fb 4 n (fr st)]) (fun x _ => q - (intOf x).toNat)
        case atStart => exact ⟨0, _, _, by omega, rfl, fun j hj => by omega, s3⟩
        case round =>
          clear s3
          obtain ⟨k, gen, st, hk, rfl, hg, sr⟩ := hrel
          by_cases hlt2 : k < q
          · obtain ⟨sb, off, rfl, hsb, hcell⟩ := rd (by omega)
            have e0 : wr.cell? ⟨sb, off + k, none⟩ = some (.int .u8 (f k)) := (sr.cell (p := ⟨sb, off + k, none⟩) hsb id).trans (hcell k hlt2)
            have fk := hf k
            generalize f k = z at *
            have m0 : 0 ≤ z % n := Int.emod_nonneg _ (by omega)
            have m1 : z % n < n := Int.emod_lt_of_pos _ (by omega)
            obtain ⟨m, hmm⟩ : ∃ m : Nat, z % (n : Int) = (m : Int) := ⟨(z % n).toNat, by omega⟩
            have hmn : m < n := by omega
            have hgo := Go.start (gen0 := gen) (st0 := st) hmn
            have hcn := cnt_le st n
            clear m0 m1 hcell
            go_wp2_with fail
            refine (All_l sr 0 rfl hn2).mono ?_
            rintro r w4 ⟨B, capB, rfl, s4'⟩
            have s4 : St w None w4 [_, _, _] := s4'
            clear s4' sr e0
            obtain ⟨c, hc⟩ : ∃ c, cnt st n = c := ⟨_, rfl⟩
            rw [hc] at s4 hcn ⊢
            have HC := Lib.hid hc
            have HG := Lib.hid hg
            have HGo := Lib.hid hgo
            clear hc hg hgo
            go_wp2_with fail
            go_loopw [13] (fun x wr => ∃ (j : Nat) (gen' : Nat → Int) (st' : Nat → Option Int), j ≤ c ∧ x = .int .i64 j ∧ (∀ i, i < n → 0 ≤ gen' i ∧ gen' i ≤ 1 + 30 * k + j) ∧ Go n m gen st j gen' st' ∧ St w None wr [TabR t n gen' st', ArrR fb 4 n (fr st'), RowR 32 2 (.slice B c capB) c (hs gen st n)]) (fun x _ => c - (intOf x).toNat)
            case atStart => exact ⟨0, _, _, by omega, rfl, fun j hj => by have := HG.out j hj; omega, HGo.out, s4⟩
            case round =>
              clear s4 HG HGo
              obtain ⟨j, gen', st', hj, rfl, hg, hgo, sr⟩ := hrel
              by_cases hl3 : j < c
              · obtain ⟨i, hji⟩ : ∃ i, (us st n)[j]? = some i := ⟨_, List.getElem?_eq_getElem (by rw [us_len]; have := HC.out; omega)⟩
                obtain ⟨h0, h1⟩ := hs_at gen st n j i hji
                obtain ⟨A', cap', hv, _, hc2, _, hcell⟩ := sr.row_cells 2 rfl
                injection hv with hv1 _ hv2
                obtain ⟨g, hg2, hcc⟩ := hcell (by omega)
                rw [hg2] at hv1
                subst hv1
                have e0 := hcc _ _ h0
                have e1 := hcc _ _ h1
                have hin : i < n := (us_mem.1 (List.mem_of_getElem? hji)).1
                clear hcell hcc h0 h1 hg2 hc2 hv2
                by_cases him : i = m
                · subst him
                  obtain ⟨v, hD, hgo2⟩ := hgo.hit hji
                  have HG := Lib.hid hg
                  have HG2 := Lib.hid (show ∀ x, x < n → 0 ≤ (fun x => if x = i then gen' i + 1 else gen' x) x ∧ (fun x => if x = i then gen' i + 1 else gen' x) x ≤ 1 + 30 * (k : Int) + (j + 1 : Nat) from fun x hx => by have h1 := hg x hx; have h2 := hg i hin; dsimp only; split <;> omega)
                  have HB := Lib.hid (show ∀ x, x < n → 0 ≤ gen' x ∧ gen' x < 18446744073709551615 from fun x hx => by have := hg x hx; omega)
                  have HGo := Lib.hid hgo2
                  have HD := Lib.hid hD
                  obtain ⟨gi, hgi⟩ : ∃ gi, gen i = gi := ⟨_, rfl⟩
                  rw [hgi] at e1 HD
                  clear hg hgo hgo2 hD hji hgi
                  go_wp2_with fail
                  refine (Drop_o sr 0 rfl hn2 HB.out HD.out).mono ?_
                  rintro e w6 ⟨rfl, s6⟩
                  have fr6 := s6.arr_frozen 1 rfl i
                  have cm6 := s6.arr_cell 1 rfl hin
                  have s7' := s6.arr_set 1 rfl hin (.bool true)
                  rw [fr_drop] at s7'
                  have S7 := Lib.hid s7'
                  clear s7' s6 sr e0 e1
                  go_wp2
                  go_roundw
                  case rel => exact ⟨j + 1, _, _, by omega, by go_num, HG2.out, HGo.out, S7.out⟩
                  case measure => simp [intOf]; omega
                · have d1 : ((i : Int) == (m : Int)) = false := beq_eq_false_iff_ne.2 (by omega)
                  have d2 : (i == m) = false := beq_eq_false_iff_ne.2 him
                  have HGo := Lib.hid (hgo.skip hji him)
                  have HG2 := Lib.hid (show ∀ x, x < n → 0 ≤ gen' x ∧ gen' x ≤ 1 + 30 * (k : Int) + (j + 1 : Nat) from fun x hx => by have h1 := hg x hx; omega)
                  clear hg hgo hji
                  go_wp2
                  go_roundw
                  case rel => exact ⟨j + 1, _, _, by omega, by go_num, HG2.out, HGo.out, sr⟩
                  case measure => simp [intOf]; omega
              · have hfree := hgo.done (by have := HC.out; omega)
                have s5 : St w None _ [_, _] := sr.drop 2 (by simp)
                have HG2 := Lib.hid (show ∀ x, x < n → 0 ≤ gen' x ∧ gen' x ≤ 1 + 30 * (k + 1 : Nat) from fun x hx => by have h1 := hg x hx; omega)
                obtain ⟨p, hp1, hp2, hp3⟩ := ff_ex hmn hfree
                have HP := Lib.hid (fun wz (h : St w None wz [TabR t n gen' st', ArrR fb 4 n (fr st')]) => Put_o1 (x := 5) h 0 rfl p hn2 hp1 hp2 hp3)
                have HF := Lib.hid hp3
                have HU := Lib.hid hp2
                clear sr hgo hg hfree hp2 hp3 hmm
                obtain ⟨gp, hgp⟩ : ∃ gp, gen' p = gp := ⟨_, rfl⟩
                rw [hgp] at HP
                by_cases hodd : k % 2 = 1
                · have dd : ((k : Int) % 2) = 1 := by omega
                  clear hgp
                  go_wp2_with fail
                  refine (HP.out _ s5).mono ?_
                  rintro e w6 ⟨rfl, s6⟩
                  have s7 : St w None _ [_, _, _] := s6.box 32 #[.int .i64 p, .int .u64 gp]
                  obtain ⟨b0, b1⟩ := (s7.blk 2 rfl).two
                  have c7 := s7.arr_cell 1 rfl hp1
                  unfold fr at c7
                  rw [HF.out] at c7
                  obtain ⟨hb, hhb⟩ : ∃ hb, w6.heap.size = hb := ⟨_, rfl⟩
                  clear s6 s5
                  go_wp2_with fail
                  rw [hhb] at s7
                  clear b0 b1 c7
                  go_loopw [16] (fun x wr => ∃ l : Nat, l ≤ p ∧ x = .int .i64 l ∧ St w None wr [TabR t n gen' (fun j => if j = p then some 5 else st' j), ArrR fb 4 n (fr st'), BlkR hb 32 #[.int .i64 p, .int .u64 gp]]) (fun x _ => p - (intOf x).toNat)
                  case atStart => exact ⟨0, by omega, rfl, s7⟩
                  case round =>
                    clear s7
                    obtain ⟨l, hl, rfl, sr⟩ := hrel
                    obtain ⟨b0, b1⟩ := (sr.blk 2 rfl).two
                    by_cases hl4 : l < p
                    · obtain ⟨v, hv⟩ := HU.out l hl4
                      have cl := sr.arr_cell 1 rfl (show l < n by omega)
                      unfold fr at cl
                      rw [hv] at cl
                      clear hv
                      go_wp2
                      go_roundw
                      case rel => exact ⟨l + 1, by omega, by go_num, sr⟩
                      case measure => simp [intOf]; omega
                    · have fr6 := sr.arr_frozen 1 rfl p
                      have cm6 := sr.arr_cell 1 rfl hp1
                      have s7' := sr.arr_set 1 rfl hp1 (.bool false)
                      rw [fr_put st' p 5] at s7'
                      have s8 : St w None _ [_, _] := s7'.drop 2 (by simp)
                      have S8 := Lib.hid s8
                      clear s8 s7' sr
                      go_wp2
                      go_roundw
                      case rel => exact ⟨k + 1, _, _, by omega, by go_num, HG2.out, S8.out⟩
                      case measure => simp [intOf]; omega
                · have dd : ((k : Int) % 2) = 0 := by omega
                  clear HP
                  go_wp2
                  go_roundw
                  case rel => exact ⟨k + 1, _, _, by omega, by go_num, HG2.out, s5⟩
                  case measure => simp [intOf]; omega
          · have hcn := cnt_le st n
            go_wp2_with fail
            refine (All_l sr 0 rfl hn2).mono ?_
            rintro r w4 ⟨B, capB, rfl, s4'⟩
            have s4 : St w None w4 [_, _, _] := s4'
            clear s4' sr
            obtain ⟨c, hc⟩ : ∃ c, cnt st n = c := ⟨_, rfl⟩
            rw [hc] at s4 hcn ⊢
            have HC := Lib.hid hc
            clear hc
            go_wp2_with fail
            go_loopw [18] (fun x wr => ∃ j : Nat, x = .int .i64 ((j : Int) + 1) ∧ j ≤ 1000 ∧ (c = 0 ∨ j + 1 ≤ c) ∧ St w None wr [TabR t n gen st, ArrR fb 4 n (fr st), RowR 32 2 (.slice B c capB) c (hs gen st n)]) (fun x _ => c - (intOf x).toNat)
            case atStart => exact ⟨0, rfl, by omega, by omega, s4⟩
            case round =>
              clear s4
              obtain ⟨j, rfl, hj0, hj, sr⟩ := hrel
              by_cases hl3 : j + 1 < c
              · obtain ⟨i, hji⟩ : ∃ i, (us st n)[j]? = some i := ⟨_, List.getElem?_eq_getElem (by rw [us_len]; have := HC.out; omega)⟩
                obtain ⟨i2, hji2⟩ : ∃ i, (us st n)[j + 1]? = some i := ⟨_, List.getElem?_eq_getElem (by rw [us_len]; have := HC.out; omega)⟩
                have hlt3 : i < i2 := by
                  obtain ⟨b1, c1⟩ := List.getElem?_eq_some_iff.1 hji
                  obtain ⟨b2, c2⟩ := List.getElem?_eq_some_iff.1 hji2
                  have := List.pairwise_iff_getElem.1 (us_sorted st n) j (j + 1) b1 b2 (by omega)
                  omega
                obtain ⟨h0, _⟩ := hs_at gen st n j i hji
                obtain ⟨h1, _⟩ := hs_at gen st n (j + 1) i2 hji2
                obtain ⟨A', cap', hv, hnc, hc2, _, hcell⟩ := sr.row_cells 2 rfl
                injection hv with hv1 _ hv2
                obtain ⟨g, hg2, hcc⟩ := hcell (by omega)
                rw [hg2] at hv1
                subst hv1
                have e0 := hcc _ _ h0
                have e1 := hcc _ _ h1
                clear hcell hcc h0 h1 hg2 hc2 hv2 hji hji2
                have dd : decide (i2 ≤ i) = false := decide_eq_false (by omega)
                have dd2 : decide ((i2 : Int) ≤ (i : Int)) = false := decide_eq_false (by omega)
                go_wp2_with fail
                go_quiet (fail)
                go_wp2
                go_roundw
                case rel => exact ⟨j + 1, by go_num, by omega, by omega, by first | exact sr | exact sr.drewN _⟩
                case measure => simp [intOf]; omega
              · go_wp2_with fail
                refine (Count_o sr 0 rfl (by omega) c HC.out).mono ?_
                rintro e w8 ⟨rfl, s8⟩
                go_wp2
                go_ret
                exact ⟨rfl, s8.below⟩

set_option maxRecDepth 100000 in
theorem lifted (os : Os) (started : os.Started) (H : Type) (enc : TypeId × Value → H) :
    ReturnsInHanded {} Try.checked os 7 .any (Rows.tableLeastSpec.pre6 enc Try.prog Try.f7 Rows.tableLeastRow.domain false) (Rows.tableLeastSpec.post enc Try.prog Try.f7 false true false false) := by
  refine law_lifted (C := Try.checked) (tb := 4) own started (by kernel_rfl) Try.func7
    (ChangeSpec.witness6 (enc := enc) (C := Try.checked) false ⟨#[], #[.int .u8 0, .slice none 0 0], []⟩ 8 (by kernel_rfl) (by kernel_rfl) (by kernel_rfl) (by kernel_rfl)) laid (by kernel_rfl) (by kernel_rfl) Try.underlying4 rfl ?_
  intro W base args ds ps hval0 hA0 hlt
  have hval : ∀ (j : Nat) t v, Try.f7.params[j]? = some t → args[j]? = some v → Value.okWide Try.prog W .any base t v := hval0
  have hA : DataW.TrodAll enc Try.prog W 0 (fun _ => true) true Try.f7.params.toList args.toList ds ps := hA0
  clear hA0 hval0
  rw [Try.params7] at hA hval
  obtain ⟨v0, vs0, d0, ds0, p0, q0, hargs, rfl, rfl, h0, r0⟩ := trodAll_cons hA
  obtain ⟨v1, vs1, d1, ds1, p1, q1, rfl, rfl, rfl, h1, r1⟩ := trodAll_cons r0
  obtain ⟨rfl, rfl, rfl⟩ := trodAll_nil r1
  obtain rfl : args = #[v0, v1] := by cases args; simp_all
  obtain ⟨a0, rfl, rfl, rfl, w0⟩ := open_int Try.underlying5 (hval 0 5 v0 rfl rfl) h0
  obtain ⟨A1, n1, cap1, f1, rfl, le1, mx1, wf1, rd1⟩ := open_slice_ints Try.underlying52 Try.underlying5 (by kernel_rfl) (hval 1 52 v1 rfl rfl) h1
  refine ⟨⟨rfl, rfl, rfl⟩, ?_⟩
  exact walk a0 A1 n1 cap1 f1 W (bounds_u8 w0) (by omega) rd1 (fun i => bounds_u8 (wf1 i))

theorem over : Rows.tableLeastRow.holds Try.pinned (OpenSpec.ofChange Rows.tableLeastSpec) :=
  OpenClaim.holds_of_wide 7 Try.f7 rfl rfl rfl rfl rfl rfl rfl ⟨rfl, rfl, rfl, rfl, rfl⟩ rfl rfl rfl rfl rfl (by kernel_rfl) Try.func7 (by kernel_rfl)
    (of_decide_eq_true (by kernel_rfl)) (by unfold Func.isWrapper; first | (rw [if_pos (by decide +kernel)]; kernel_rfl) | (rw [if_neg (by decide +kernel)]; exact ⟨rfl, rfl⟩))
    (fun os started H enc _ => lifted os started H enc)
theorem proved : Rows.TableLeastSaid := over
#print axioms proved
end Go.Proofs.Ytlpmnpmgehjmaaa.tableLeast
