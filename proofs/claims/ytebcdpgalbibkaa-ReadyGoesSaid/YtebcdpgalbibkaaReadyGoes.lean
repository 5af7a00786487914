/-
  For all urgencies and all goings ReadyGoes answers true, and changes nothing: who goes leaves the others as they stand, and may come again. No condition.
-/
import Derived.Test.YtebcdpgalbibkaaRows
import Derived.Test.YtebcdpgalbibkaaFr
import Derived.Test.YtebcdpgalbibkaaReadyB
import Derived.Deep.QuietTactic
import Derived.BigQuiet
namespace Go.Proofs.Ytebcdpgalbibkaa.readyGoes
open Go.ChangeShapes Go.WideShapes Go.ChangeAt Go.RowKit
set_option linter.unusedVariables false
theorem own : ownKnob Try.prog.godebug = none := by kernel_rfl
theorem laid : laidOutB Try.prog = true := by kernel_rfl
set_option maxRecDepth 100000
set_option maxHeartbeats 2000000
theorem walk (A B : Option Addr) (n cap m capB : Nat) (f g : Nat → Nat) (w : World) (hm : n ≤ maxLen) (hmB : m ≤ maxLen) (rd : Rd w A n (fun j => .int .u8 (f j : Int))) (hf : ∀ j, f j ≤ 255) (rdB : Rd w B m (fun j => .int .u8 (g j : Int))) (hg : ∀ j, g j ≤ 255) :
    Calls Try.prog 6 #[.slice A n cap, .slice B m capB] w fun r w' => r = .returned (.bool true) ∧ Below w.heap.size w w' := by
  unfold maxLen at hm hmB
  have RD := Lib.hid rd
  have HF := Lib.hid hf
  have RG := Lib.hid rdB
  have HG := Lib.hid hg
  clear rd hf rdB hg
  by_cases hbig : 64 < n
  · have d1 : decide (64 < (n : Int)) = true := decide_eq_true (by omega)
    have d1' : decide (64 < n) = true := decide_eq_true hbig
    go_enter Try.func6, Try.ntmps6
    go_wp2_with fail
    refine (awake_o (St.begin w)).mono ?_
    rintro r w1 ⟨rfl, s1⟩
    go_wp2_with fail
    go_ret
    exact ⟨rfl, s1.below⟩
  have d1 : decide (64 < (n : Int)) = false := decide_eq_false (by omega)
  have d1' : decide (64 < n) = false := decide_eq_false hbig
  by_cases hbig2 : 60 < m
  · have d1 : decide (60 < (m : Int)) = true := decide_eq_true (by omega)
    have d1' : decide (60 < m) = true := decide_eq_true hbig2
    go_enter Try.func6, Try.ntmps6
    go_wp2_with fail
    refine (awake_o (St.begin w)).mono ?_
    rintro r w1 ⟨rfl, s1⟩
    go_wp2_with fail
    go_ret
    exact ⟨rfl, s1.below⟩
  have d2 : decide (60 < (m : Int)) = false := decide_eq_false (by omega)
  have d2' : decide (60 < m) = false := decide_eq_false hbig2
  obtain ⟨P, hP⟩ : ∃ P : Nat → Nat, ∀ j, P j = f j % 101 := ⟨_, fun j => rfl⟩
  have hP1 : ∀ j, P j < 101 := fun j => by rw [hP]; omega
  have HP := Lib.hid hP
  have HP1 := Lib.hid hP1
  clear hP hP1
  go_enter Try.func6, Try.ntmps6
  go_wp2_with fail
  refine (awake_o (St.begin w)).mono ?_
  rintro r w1 ⟨rfl, s1⟩
  go_wp2_with fail
  refine (New_o s1).mono ?_
  rintro r w2 ⟨q, rfl, s2'⟩
  have s2 : St w None w2 [QueR q QS.new] := s2'
  have S2 := Lib.hid s2
  clear s1 s2 s2'
  go_wp2_with fail
  go_loopw [6] (fun i wr => ∃ k : Nat, k ≤ n ∧ i = .int .i64 k ∧ St w None wr [QueR q (comes P k)]) (fun i _ => n - (intOf i).toNat)
  case atStart => exact ⟨0, by omega, rfl, S2.out⟩
  case round =>
    clear S2
    obtain ⟨k, hk, rfl, sr⟩ := hrel
    have SR := Lib.hid sr
    by_cases hlt : k < n
    · obtain ⟨ib, off, rfl, hib, hrd⟩ := RD.out (by omega)
      have e0 : wr.cell? ⟨ib, off + k, none⟩ = some (.int .u8 (f k)) := (sr.below.cell (p := ⟨ib, off + k, none⟩) hib).trans (hrd k hlt)
      have hfb := HF.out k
      have hpk := HP.out k
      have CO := Lib.hid (Come_o (i := 0) SR.out rfl (comes_came HP1.out (show k ≤ 64 by omega)).ok _ _ _ (comes_comeP HP1.out (show k < 64 by omega)))
      generalize f k = x at *
      have hrem : Int.tmod (x : Int) 101 = (P k : Int) := by
        rw [Int.tmod_eq_emod_of_nonneg (by omega), hpk]; exact (Int.natCast_emod x 101).symm
      have hwx : IntKind.i64.wrap (x : Int) = (x : Int) := IntWalk.i64_in _ ⟨by omega, by omega⟩
      have hwp : IntKind.i64.wrap (P k : Int) = (P k : Int) := by have := HP1.out k; exact IntWalk.i64_in _ ⟨by omega, by omega⟩
      clear hpk sr hrd
      go_wp2_with fail
      refine CO.out.mono ?_
      rintro r' w3 ⟨rfl, s3'⟩
      have s3 : St w None w3 [QueR q (comes P (k + 1))] := s3'
      clear s3' CO
      go_wp2_with fail
      go_roundw
      case rel => exact ⟨k + 1, by omega, by go_num, s3⟩
      case measure => simp [intOf]; omega
    · obtain rfl : k = n := by omega
      have HL := Lib.hid ((comes_came HP1.out (show k ≤ 64 by omega)).ok.more (show k ≤ 64 by omega) (by omega))
      generalize comes P k = s0 at *
      clear sr
      go_wp2_with fail
      go_loopw [7] (fun i wr => ∃ (t : Nat) (s : QS), t ≤ m ∧ i = .int .i64 t ∧ s.ok (64 + t) ∧ St w None wr [QueR q s]) (fun i _ => m - (intOf i).toNat)
      case atStart => exact ⟨0, s0, by omega, rfl, HL.out, SR.out⟩
      case round =>
        clear HL SR s0
        obtain ⟨t, s, htm, rfl, hok, sr⟩ := hrel
        have OK := Lib.hid hok
        have SR := Lib.hid sr
        clear hok
        by_cases hlt : t < m
        case neg =>
          clear sr
          go_wp2_with fail
          go_ret
          exact ⟨rfl, SR.out.below⟩
        by_cases hk0 : k = 0
        · subst hk0
          clear sr
          go_wp2_with fail
          go_ret
          exact ⟨rfl, SR.out.below⟩
        have z1 : decide ((0 : Int) < (k : Int)) = true := decide_eq_true (by omega)
        have z1' : decide (0 < k) = true := decide_eq_true (by omega)
        obtain ⟨ib, off, rfl, hib, hrd⟩ := RG.out (by omega)
        have e0 : wr.cell? ⟨ib, off + t, none⟩ = some (.int .u8 (g t)) := (sr.below.cell (p := ⟨ib, off + t, none⟩) hib).trans (hrd t hlt)
        have hgb := HG.out t
        generalize g t = x at *
        obtain ⟨y, hy⟩ : ∃ y, x % k = y := ⟨_, rfl⟩
        have hyl : y < k := by rw [← hy]; exact Nat.mod_lt _ (by omega)
        have hrem : Int.tmod (x : Int) (k : Int) = (y : Int) := by
          rw [Int.tmod_eq_emod_of_nonneg (by omega), ← hy]; exact (Int.natCast_emod x k).symm
        have hz : ((k : Int) == 0) = false := beq_eq_false_iff_ne.2 (by omega)
        have hwx : IntKind.i64.wrap (x : Int) = (x : Int) := IntWalk.i64_in _ ⟨by omega, by omega⟩
        obtain ⟨e, s', hgo, hok', hids, hnone, hcase⟩ := goes_ex OK.out (show y < 64 by omega)
        have HGO := Lib.hid hgo
        have OK' := Lib.hid hok'
        have HIDS := Lib.hid hids
        have HNO := Lib.hid hnone
        have HCA := Lib.hid hcase
        clear hy hrd sr hgo hok' hids hnone hcase
        go_wp2_with fail
        refine (All_o (i := 0) SR.out rfl OK.out).mono ?_
        rintro r' w3 ⟨B1, c1, rfl, s3'⟩
        have s3 : St w None w3 [QueR q s, LisR 3 1 (.slice B1 s.all.length c1) s.all.length (ivs s.ids)] := s3'
        have S3 := Lib.hid s3
        clear s3 s3' SR
        go_wp2_with fail
        refine (Go_o (i := 0) S3.out rfl OK.out _ _ HGO.out).mono ?_
        rintro r' w4 ⟨rfl, s4'⟩
        have s4 : St w None w4 [QueR q s', LisR 3 1 (.slice B1 s.all.length c1) s.all.length (ivs s.ids)] := s4'
        have S4 := Lib.hid s4
        clear s4 s4' S3
        go_wp2_with fail
        refine (All_o (i := 0) S4.out rfl OK'.out).mono ?_
        rintro r' w5 ⟨B2, c2, rfl, s5'⟩
        have s5 : St w None w5 [QueR q s', LisR 3 1 (.slice B1 s.all.length c1) s.all.length (ivs s.ids), LisR 3 1 (.slice B2 s'.all.length c2) s'.all.length (ivs s'.ids)] := s5'
        rw [HIDS.out] at s5
        have hl1 := ids_len s
        have hl2 := ids_len s'
        rw [HIDS.out] at hl2
        have hmx := OK.out.len
        have hmx' := OK'.out.len
        have HS1 : (fun j => decide (j ≠ y)) = (fun j => decide (j ≠ y)) := rfl
        generalize s.all.length = la at *
        generalize s'.all.length = lb at *
        generalize s.ids = wl at *
        have S5 := Lib.hid s5
        have HL1 := Lib.hid hl1
        have HL2 := Lib.hid hl2
        clear s5 s5' S4 HS1 hl1 hl2
        go_wp2_with fail
        go_loopw [12, 13] (fun x12 j wr => ∃ i : Nat, i ≤ la ∧ j = .int .i64 i ∧ x12 = .int .i64 ((wo y (wl.take i)).length : Int) ∧ St w None wr [QueR q s', LisR 3 1 (.slice B1 la c1) la (ivs wl), LisR 3 1 (.slice B2 lb c2) lb (ivs (wo y wl))]) (fun _ j _ => la - (intOf j).toNat)
        case atStart => exact ⟨0, by omega, rfl, rfl, S5.out⟩
        case round =>
          clear S5
          obtain ⟨i, hi, rfl, rfl, sr⟩ := hrel
          have SR := Lib.hid sr
          by_cases hil : i < la
          · obtain ⟨u, hu⟩ : ∃ u, wl[i]? = some u := ⟨wl[i]'(by have := HL1.out; omega), List.getElem?_eq_getElem _⟩
            obtain ⟨gb, go, rfl, hc⟩ := (sr.lis 1 rfl).reads.2.resolve_left (by omega)
            have c1' := hc i _ (ivs_get hu)
            have ht := wo_snoc (id := y) hu
            by_cases e1 : u = y
            · rw [if_pos e1, List.append_nil] at ht
              have q1 : ((u : Int) == (y : Int)) = true := beq_iff_eq.2 (by omega)
              have q1' : (u == y) = true := beq_iff_eq.2 e1
              have HT := Lib.hid ht
              clear ht hu hc sr
              go_wp2_with fail
              go_roundw
              case rel => exact ⟨i + 1, by omega, by go_num, by rw [HT.out], SR.out⟩
              case measure => simp [intOf]; omega
            · rw [if_neg e1] at ht
              have q1 : ((u : Int) == (y : Int)) = false := beq_eq_false_iff_ne.2 (by omega)
              have q1' : (u == y) = false := beq_eq_false_iff_ne.2 e1
              have hget := wo_get hu e1
              have hnl : (wo y (wl.take i)).length < lb := by
                have := (List.getElem?_eq_some_iff.1 hget).1
                have := HL2.out; omega
              have ht2 : (wo y (wl.take (i + 1))).length = (wo y (wl.take i)).length + 1 := by rw [ht]; simp
              generalize (wo y (wl.take i)).length = nn at *
              obtain ⟨gc, gd, rfl, hc2⟩ := (sr.lis 2 rfl).reads.2.resolve_left (by omega)
              have c2' := hc2 nn _ (ivs_get hget)
              have HT := Lib.hid ht2
              have q2 : decide ((lb : Int) ≤ (nn : Int)) = false := decide_eq_false (by omega)
              have q2' : decide (lb ≤ nn) = false := decide_eq_false (by omega)
              have hnl2 : (nn : Int) < (lb : Int) := by omega
              have hil2 : (i : Int) < (la : Int) := by omega
              have hn0 : (0 : Int) ≤ (nn : Int) := by omega
              have hi0 : (0 : Int) ≤ (i : Int) := by omega
              clear ht ht2 hu hc hc2 sr hget
              go_wp2_with fail
              go_quiet (fail)
              go_wp2_with fail
              go_roundw
              case rel => exact ⟨i + 1, by omega, by go_num, by rw [HT.out]; go_num, SR.out.drewN _⟩
              case measure => simp [intOf]; omega
          · obtain rfl : i = la := by omega
            have hfull : wl.take i = wl := List.take_of_length_le (by have := HL1.out; omega)
            have hnl : (wo y (wl.take i)).length = lb := by rw [hfull]; exact HL2.out
            rw [hnl]
            have AG := Lib.hid (again_ok OK'.out (show y < 64 by omega) HNO.out (by omega))
            have hE : (e = 0 ∧ (decide ((lb : Int) < (i : Int)) = true ∧ decide (lb < i) = true)) ∨ (e = 6 ∧ (decide ((lb : Int) < (i : Int)) = false ∧ decide (lb < i) = false)) := by
              rcases HCA.out with ⟨h1, h2⟩ | ⟨h1, h2⟩
              · exact Or.inl ⟨h1, decide_eq_true h2, decide_eq_true (by omega)⟩
              · exact Or.inr ⟨h1, decide_eq_false (by omega), decide_eq_false (by omega)⟩
            have htm2 : Int.tmod (t : Int) 4 = ((t % 4 : Nat) : Int) := by
              rw [Int.tmod_eq_emod_of_nonneg (by omega)]; exact (Int.natCast_emod t 4).symm
            have ht3 : t % 4 < 4 := Nat.mod_lt _ (by omega)
            generalize t % 4 = t4 at *
            clear hfull hnl sr HCA
            by_cases h3 : t4 = 3
            · subst h3
              have htm3 : Int.tmod (t : Int) 4 = 3 := htm2
              clear htm2
              rcases hE with ⟨rfl, hd, hd'⟩ | ⟨rfl, hd, hd'⟩
              · go_wp2_with fail
                refine (Come_o (i := 0) SR.out rfl OK'.out _ _ _ AG.out.1).mono ?_
                rintro r' w6 ⟨rfl, s6'⟩
                have s6 : St w None w6 [QueR q (s'.come y 50), _, _] := s6'
                have S6 := Lib.hid s6
                clear s6 s6' SR
                go_wp2_with fail
                refine (Come_o (i := 0) S6.out rfl AG.out.2.2 _ _ _ AG.out.2.1).mono ?_
                rintro r' w7 ⟨rfl, s7'⟩
                have s7 : St w None w7 [QueR q (s'.come y 50), _, _] := s7'
                have S7 := Lib.hid (show St w None w7 [QueR q (s'.come y 50)] from s7.take 1)
                clear s7 s7' S6
                go_wp2_with fail
                go_roundw
                case rel => exact ⟨t + 1, _, by omega, by go_num, AG.out.2.2, S7.out⟩
                case measure => simp [intOf]; omega
              · go_wp2_with fail
                refine (Come_o (i := 0) SR.out rfl OK'.out _ _ _ AG.out.1).mono ?_
                rintro r' w6 ⟨rfl, s6'⟩
                have s6 : St w None w6 [QueR q (s'.come y 50), _, _] := s6'
                have S6 := Lib.hid s6
                clear s6 s6' SR
                go_wp2_with fail
                refine (Come_o (i := 0) S6.out rfl AG.out.2.2 _ _ _ AG.out.2.1).mono ?_
                rintro r' w7 ⟨rfl, s7'⟩
                have s7 : St w None w7 [QueR q (s'.come y 50), _, _] := s7'
                have S7 := Lib.hid (show St w None w7 [QueR q (s'.come y 50)] from s7.take 1)
                clear s7 s7' S6
                go_wp2_with fail
                go_roundw
                case rel => exact ⟨t + 1, _, by omega, by go_num, AG.out.2.2, S7.out⟩
                case measure => simp [intOf]; omega
            · have q3 : ((t4 : Int) == 3) = false := beq_eq_false_iff_ne.2 (by omega)
              have q3' : (t4 == 3) = false := beq_eq_false_iff_ne.2 h3
              rcases hE with ⟨rfl, hd, hd'⟩ | ⟨rfl, hd, hd'⟩
              · have S7 := Lib.hid (show St w None _ [QueR q s'] from SR.out.take 1)
                clear SR
                go_wp2_with fail
                go_roundw
                case rel => exact ⟨t + 1, _, by omega, by go_num, OK'.out.more (by omega) (by omega), S7.out⟩
                case measure => simp [intOf]; omega
              · have S7 := Lib.hid (show St w None _ [QueR q s'] from SR.out.take 1)
                clear SR
                go_wp2_with fail
                go_roundw
                case rel => exact ⟨t + 1, _, by omega, by go_num, OK'.out.more (by omega) (by omega), S7.out⟩
                case measure => simp [intOf]; omega

set_option maxRecDepth 100000 in
theorem lifted (os : Os) (started : os.Started) (H : Type) (enc : TypeId × Value → H) :
    ReturnsInHanded {} Try.checked os 6 .any (Rows.readyGoesSpec.pre6 enc Try.prog Try.f6 Rows.readyGoesRow.domain false) (Rows.readyGoesSpec.post enc Try.prog Try.f6 false true false false) := by
  refine law_lifted (C := Try.checked) (tb := 4) own started (by kernel_rfl) Try.func6
    (ChangeSpec.witness6 (enc := enc) (C := Try.checked) false ⟨#[], #[.slice none 0 0, .slice none 0 0], []⟩ 8 (by kernel_rfl) (by kernel_rfl) (by kernel_rfl) (by kernel_rfl)) laid (by kernel_rfl) (by kernel_rfl) Try.underlying4 rfl ?_
  intro W base args ds ps hval0 hA0 hlt
  have hval : ∀ (j : Nat) t v, Try.f6.params[j]? = some t → args[j]? = some v → Value.okWide Try.prog W .any base t v := hval0
  have hA : DataW.TrodAll enc Try.prog W 0 (fun _ => true) true Try.f6.params.toList args.toList ds ps := hA0
  clear hA0 hval0
  rw [Try.params6] at hA hval
  obtain ⟨v0, vs0, d0, ds0, p0, q0, hargs, rfl, rfl, h0, r0⟩ := trodAll_cons hA
  obtain ⟨v1, vs1, d1, ds1, p1, q1, rfl, rfl, rfl, h1, r1⟩ := trodAll_cons r0
  obtain ⟨rfl, rfl, rfl⟩ := trodAll_nil r1
  obtain rfl : args = #[v0, v1] := by cases args; simp_all
  obtain ⟨A0, n0, cap0, f0, rfl, le0, mx0, wf0, rd0⟩ := open_slice_ints Try.underlying41 Try.underlying5 (by kernel_rfl) (hval 0 41 v0 rfl rfl) h0
  obtain ⟨A1, n1, cap1, f1, rfl, le1, mx1, wf1, rd1⟩ := open_slice_ints Try.underlying41 Try.underlying5 (by kernel_rfl) (hval 1 41 v1 rfl rfl) h1
  refine ⟨⟨rfl, rfl, rfl⟩, ?_⟩
  exact walk A0 A1 n0 cap0 n1 cap1 (fun j => (f0 j).toNat) (fun j => (f1 j).toNat) W (by omega) (by omega) (by
    have e : (fun j => Value.int .u8 (f0 j)) = fun j => Value.int .u8 (((f0 j).toNat : Nat) : Int) := by
      funext j
      rw [Int.toNat_of_nonneg (bounds_u8 (wf0 j)).1]
    rw [← e]; exact rd0) (fun j => by have := bounds_u8 (wf0 j); omega) (by
    have e : (fun j => Value.int .u8 (f1 j)) = fun j => Value.int .u8 (((f1 j).toNat : Nat) : Int) := by
      funext j
      rw [Int.toNat_of_nonneg (bounds_u8 (wf1 j)).1]
    rw [← e]; exact rd1) (fun j => by have := bounds_u8 (wf1 j); omega)

theorem over : Rows.readyGoesRow.holds Try.pinned (OpenSpec.ofChange Rows.readyGoesSpec) :=
  OpenClaim.holds_of_wide 6 Try.f6 rfl rfl rfl rfl rfl rfl rfl ⟨rfl, rfl, rfl, rfl, rfl⟩ rfl rfl rfl rfl rfl (by kernel_rfl) Try.func6 (by kernel_rfl)
    (of_decide_eq_true (by kernel_rfl)) (by unfold Func.isWrapper; first | (rw [if_pos (by decide +kernel)]; kernel_rfl) | (rw [if_neg (by decide +kernel)]; exact ⟨rfl, rfl⟩))
    (fun os started H enc _ => lifted os started H enc)
theorem proved : Rows.ReadyGoesSaid := over
#print axioms proved
end Go.Proofs.Ytebcdpgalbibkaa.readyGoes
