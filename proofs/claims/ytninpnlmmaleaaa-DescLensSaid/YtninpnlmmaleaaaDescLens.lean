/-
  For every row of bytes and every byte DescLens answers true, and changes nothing: rows of other lengths than twenty bytes are no descriptor's; nor is one with a byte of marks above 63. No condition.
-/
import Derived.Test.YtninpnlmmaleaaaRows
import Derived.Test.YtninpnlmmaleaaaFr
import Derived.Test.YtninpnlmmaleaaaDescU
import Derived.Test.YtninpnlmmaleaaaOpen
import Derived.Deep.DeepCutAuto
namespace Go.Proofs.Ytninpnlmmaleaaa.descLens
open Go.ChangeShapes Go.WideShapes Go.ChangeAt Go.RowKit
set_option linter.unusedVariables false
theorem own : ownKnob Try.prog.godebug = none := by kernel_rfl
theorem laid : laidOutB Try.prog = true := by kernel_rfl
set_option maxRecDepth 100000
set_option maxHeartbeats 1000000
def d1 : Dsc := ⟨1, 2, 0, 0, 0, 3, false, false, 0⟩
theorem d1_may : d1.may := by decide
def dm (m : Int) : Dsc := ⟨m % 16, 2, 0, 0, 0, 3, decide (m / 16 % 2 = 1), decide (m / 32 % 2 = 1), 0⟩
theorem dm_may (m : Int) : (dm m).may := by
  unfold Dsc.may dm
  dsimp only
  omega
theorem dm_marks {m : Int} (h : 0 ≤ m ∧ m < 64) : (dm m).marks = m := by
  show m % 16 + (if decide (m / 16 % 2 = 1) = true then 16 else 0) + (if decide (m / 32 % 2 = 1) = true then 32 else 0) = m
  simp only [decide_eq_true_eq]
  split <;> split <;> omega
theorem dm_pre (m : Int) : ∀ j, 1 ≤ j → (dm m).pre j = d1.pre j := by
  intro j h
  unfold Dsc.pre
  split <;> first | omega | rfl
abbrev xm (m : Int) : List Int := d1.fullL.set 0 m
theorem d1_len : d1.fullL.length = 20 := by simp [Dsc.fullL]
theorem xm_at {m : Int} (h : 0 ≤ m ∧ m < 64) : ∀ j, j < 17 → (xm m).getD j 0 = (dm m).pre j := by
  intro j hj
  by_cases e : j = 0
  · subst e
    rw [set_eq m (by rw [d1_len]; omega)]
    exact (dm_marks h).symm
  · rw [set_ne m e, fullL_at _ j (by omega), full_pre _ j hj, dm_pre m j (by omega)]
abbrev xf (m s : Int) : List Int := (((xm m).set 17 (s / 65536)).set 18 (s / 256 % 256)).set 19 (s % 256)
theorem xf_at {m s : Int} (h : 0 ≤ m ∧ m < 64) (hs : s = chk (fun j => (xm m).getD j 0) 17) : ∀ j, j < 20 → (fun j => (xf m s).getD j 0) j = (dm m).full j := by
  have e : s = (dm m).sum := by rw [hs]; exact chk_like (xm_at h)
  subst e
  have hl := d1_len
  intro j hj
  show (xf m (dm m).sum).getD j 0 = _
  by_cases e19 : j = 19
  · subst e19; rw [set_eq _ (by simp; omega)]; rfl
  · rw [set_ne _ e19]
    by_cases e18 : j = 18
    · subst e18; rw [set_eq _ (by simp; omega)]; rfl
    · rw [set_ne _ e18]
      by_cases e17 : j = 17
      · subst e17; rw [set_eq _ (by simp; omega)]; rfl
      · rw [set_ne _ e17, xm_at h j (by omega), full_pre _ j (by omega)]
theorem xf_isD {m s : Int} (h : 0 ≤ m ∧ m < 256) (hs : s = chk (fun j => (xm m).getD j 0) 17) :
    ∃ (d : Dsc) (c : Int), ((isD (fun j => (xf m s).getD j 0) 20 ∧ d = dec (fun j => (xf m s).getD j 0) ∧ c = 0) ∨ (¬ isD (fun j => (xf m s).getD j 0) 20 ∧ d = Dsc.zero ∧ c = 9)) ∧ ((m < 64 ∧ d = dm m ∧ c = 0) ∨ (64 ≤ m ∧ d = Dsc.zero ∧ c = 9)) := by
  by_cases h64 : m < 64
  · have hl := xf_at ⟨h.1, h64⟩ hs
    exact ⟨dm m, 0, Or.inl ⟨(isD_like hl).2 (isD_full (dm_may m)), by rw [dec_like hl, dec_full (dm_may m)], rfl⟩, Or.inl ⟨h64, rfl, rfl⟩⟩
  · refine ⟨Dsc.zero, 9, Or.inr ⟨fun hd => ?_, rfl, rfl⟩, Or.inr ⟨by omega, rfl, rfl⟩⟩
    have e := hd.2.2 0 (by omega)
    have hb := marks_bd hd.2.1
    have e0 : (xf m s).getD 0 0 = m := by
      rw [set_ne _ (by omega), set_ne _ (by omega), set_ne _ (by omega), set_eq _ (by rw [d1_len]; omega)]
    have e1 : (dec fun j => (xf m s).getD j 0).full 0 = (dec fun j => (xf m s).getD j 0).marks := rfl
    rw [e1] at e
    dsimp only at e
    rw [e0] at e
    omega
theorem xm_bd {m : Int} (h : 0 ≤ m ∧ m < 256) (j : Nat) (hj : j < 20) : 0 ≤ (xm m).getD j 0 ∧ (xm m).getD j 0 < 256 := by
  by_cases e : j = 0
  · subst e; rw [set_eq m (by rw [d1_len]; omega)]; exact h
  · rw [set_ne m e, fullL_at _ j hj]; exact full_bd d1_may j
theorem xf_bd {m s : Int} (h : 0 ≤ m ∧ m < 256) (hs : 0 ≤ s ∧ s < 16777216) (j : Nat) (hj : j < 20) : 0 ≤ (xf m s).getD j 0 ∧ (xf m s).getD j 0 < 256 := by
  have hl := d1_len
  by_cases e19 : j = 19
  · subst e19; rw [set_eq _ (by simp; omega)]; omega
  · rw [set_ne _ e19]
    by_cases e18 : j = 18
    · subst e18; rw [set_eq _ (by simp; omega)]; omega
    · rw [set_ne _ e18]
      by_cases e17 : j = 17
      · subst e17; rw [set_eq _ (by simp; omega)]; omega
      · rw [set_ne _ e17]; exact xm_bd h j hj
theorem getq {xs : List Int} {i : Nat} (h : i < xs.length) : ∃ y, xs[i]? = some y := ⟨_, List.getElem?_eq_getElem h⟩
theorem walk (A : Option Addr) (n cap : Nat) (f : Nat → Int) (m : Int) (w : World) (bm : 0 ≤ m ∧ m ≤ 255) (hcap : n ≤ cap ∧ cap ≤ maxLen) (rd : Rd w A n (fun j => .int .u8 (f j))) (hf : ∀ j, 0 ≤ f j ∧ f j ≤ 255) :
    Calls Try.prog 8 #[.slice A n cap, .int .u8 m] w fun r w' => r = .returned (.bool true) ∧ Below w.heap.size w w' := by
  have hm := hcap
  unfold maxLen at hm
  have hmb : 0 ≤ m ∧ m < 256 := ⟨bm.1, by omega⟩
  by_cases hn : 200 < n
  · have d1 : decide (200 < (n : Int)) = true := decide_eq_true (by omega)
    go_enter Try.func8, Try.ntmps8
    go_wp2_with fail
    refine (looks (awake_any _) (St.begin w)).mono ?_
    rintro e w1 ⟨rfl, s1⟩
    go_wp2_with fail
    go_ret
    exact ⟨rfl, s1.below⟩
  · have dn : decide (200 < (n : Int)) = false := decide_eq_false (by omega)
    have Y := Lib.hid (fun W (s : St w None W []) => bytes_yes d1 d1_may s)
    rw [show d1.v = .agg #[.int .i64 1, .int .i64 2, .int .i64 0, .int .u64 0, .int .i64 0, .int .i64 3, .bool false, .bool false, .int .i64 0] from rfl] at Y
    by_cases h20 : n = 20
    · have e20 : ((n : Int) != 20) = false := by simp [bne]; omega
      go_enter Try.func8, Try.ntmps8
      go_wp2_with fail
      refine (looks (awake_any _) (St.begin w)).mono ?_
      rintro e w1 ⟨rfl, s1⟩
      go_wp2_with fail
      refine (Y.out _ s1).mono ?_
      rintro e w2 ⟨B, c, rfl, s2'⟩
      have s2 : St w None w2 [LisR 5 1 (.slice B 20 c) 20 (bys d1.fullL)] := s2'
      clear s2' s1 Y
      obtain ⟨A', cap', hv, -, -, -, hcell⟩ := s2.lis_cells 0 rfl
      injection hv with hv1 _ hv2
      subst hv1 hv2
      obtain ⟨b, off, rfl, hcc⟩ := hcell.resolve_left (by omega)
      have q0 : w2.cell? ⟨b, off, none⟩ = _ := hcc 0 _ rfl
      have f0 := (s2.lis 0 rfl).frozen off
      have s3' := s2.lis_set 0 rfl (k := 0) (by omega) (.int .u8 m)
      rw [bys_set] at s3'
      have s3 : St w None (w2.setCell ⟨b, off, none⟩ (.int .u8 m)) [LisR 5 1 (.slice (some ⟨b, off, none⟩) 20 c) 20 (bys (xm m))] := s3'
      have rd3 := rd_bys (s3.lis 0 rfl)
      have CK := Lib.hid (check_c (n := 17) (cap := c) (f := fun j => (xm m).getD j 0) (fun h0 => by
        obtain ⟨b', o', h1, h2, h3⟩ := rd3 (by omega)
        exact ⟨b', o', h1, h2, fun j hj => h3 j (by omega)⟩) (fun j hj => xm_bd hmb j (by omega)) (by omega))
      have hsb := chk_bd (fun j => (xm m).getD j 0) 17
      obtain ⟨s, hs⟩ : ∃ s, chk (fun j => (xm m).getD j 0) 17 = s := ⟨_, rfl⟩
      rw [hs] at CK hsb
      have HS := Lib.hid hs
      have S3 := Lib.hid s3
      have hcl := (lis_cap (s3.lis 0 rfl)).1
      have k17 : (17 : Int) ≤ (c : Int) := by omega
      clear s3 s3' s2 hcell hcc rd3 hs
      go_wp2_with fail
      refine CK.out.mono ?_
      rintro e w4 ⟨rfl, rfl⟩
      clear CK q0 f0
      have s3 := S3.out
      generalize w2.setCell ⟨b, off, none⟩ (.int .u8 m) = wx at *
      have hl0 : (xm m).length = 20 := by simp [d1_len]
      obtain ⟨y17, h17⟩ := getq (xs := xm m) (i := 17) (by omega)
      obtain ⟨A', cap', hv, -, -, -, hcell⟩ := s3.lis_cells 0 rfl
      injection hv with hv1 _ hv2
      subst hv1 hv2
      obtain ⟨b', off', hbo, hcc⟩ := hcell.resolve_left (by omega)
      obtain ⟨rfl, rfl⟩ : b = b' ∧ off = off' := by simpa using hbo
      have q17 := hcc 17 _ (bys_get h17)
      have f17 := (s3.lis 0 rfl).frozen (off + 17)
      have s4 := s3.lis_set 0 rfl (k := 17) (by omega) (.int .u8 (s / 65536))
      rw [bys_set] at s4
      obtain ⟨y18, h18⟩ := getq (xs := (xm m).set 17 (s / 65536)) (i := 18) (by rw [List.length_set]; omega)
      obtain ⟨A', cap', hv, -, -, -, hcell2⟩ := s4.lis_cells 0 rfl
      injection hv with hv1 _ hv2
      subst hv1 hv2
      obtain ⟨b', off', hbo, hcc2⟩ := hcell2.resolve_left (by omega)
      obtain ⟨rfl, rfl⟩ : b = b' ∧ off = off' := by simpa using hbo
      have q18 := hcc2 18 _ (bys_get h18)
      have f18 := (s4.lis 0 rfl).frozen (off + 18)
      have s5 := s4.lis_set 0 rfl (k := 18) (by omega) (.int .u8 (s / 256 % 256))
      rw [bys_set] at s5
      obtain ⟨y19, h19⟩ := getq (xs := ((xm m).set 17 (s / 65536)).set 18 (s / 256 % 256)) (i := 19) (by rw [List.length_set, List.length_set]; omega)
      obtain ⟨A', cap', hv, -, -, -, hcell3⟩ := s5.lis_cells 0 rfl
      injection hv with hv1 _ hv2
      subst hv1 hv2
      obtain ⟨b', off', hbo, hcc3⟩ := hcell3.resolve_left (by omega)
      obtain ⟨rfl, rfl⟩ : b = b' ∧ off = off' := by simpa using hbo
      have q19 := hcc3 19 _ (bys_get h19)
      have f19 := (s5.lis 0 rfl).frozen (off + 19)
      have s6 := s5.lis_set 0 rfl (k := 19) (by omega) (.int .u8 (s % 256))
      rw [bys_set] at s6
      obtain ⟨D, cc, hD, hDm⟩ := xf_isD hmb HS.out.symm
      have FR := Lib.hid (from_xs s6 0 rfl (xf_bd hmb hsb) D cc hD)
      have g17 : s / 65536 % 256 = s / 65536 := by omega
      unfold Dsc.v at FR
      clear s3 s4 s5 s6 S3 hcc hcc2 hcc3 hcell hcell2 hcell3 h17 h18 h19 hD hl0 hbo
      go_wp2_with fail
      refine FR.out.mono ?_
      rintro e w7 ⟨rfl, s7⟩
      rcases hDm with ⟨h64, rfl, rfl⟩ | ⟨h64, rfl, rfl⟩
      · have d64 : decide (m < 64) = true := decide_eq_true h64
        have wm : IntKind.i64.wrap m = m := IntWalk.i64_in _ ⟨by omega, by omega⟩
        have hmod : m.tmod 16 = m % 16 := Int.tmod_eq_emod_of_nonneg hmb.1
        have s8 := s7.box 26 (dm m).cells
        unfold dm
        go_wp2_with fail
        go_ret
        exact ⟨rfl, s8.below⟩
      · have d64 : decide (m < 64) = false := decide_eq_false (by omega)
        have s8 := s7.box 26 Dsc.zero.cells
        go_wp2_with fail
        go_ret
        exact ⟨rfl, s8.below⟩
    · have e20 : ((n : Int) != 20) = true := by simp [bne]; omega
      have FB := Lib.hid (fun W (hb : Below w.heap.size w W) => from_c (rd.below hb (Nat.le_refl _)) (fun j _ => by have := hf j; omega) hcap Dsc.zero 9 (Or.inr ⟨fun h => h20 h.1, rfl, rfl⟩))
      rw [show Dsc.zero.v = .agg #[.int .i64 0, .int .i64 0, .int .i64 0, .int .u64 0, .int .i64 0, .int .i64 0, .bool false, .bool false, .int .i64 0] from rfl] at FB
      clear rd
      go_enter Try.func8, Try.ntmps8
      go_wp2_with fail
      refine (looks (awake_any _) (St.begin w)).mono ?_
      rintro e w1 ⟨rfl, s1⟩
      go_wp2_with fail
      refine (Y.out _ s1).mono ?_
      rintro e w2 ⟨B, c, rfl, s2'⟩
      have s2a : St w None w2 [LisR 5 1 (.slice B 20 c) 20 (bys d1.fullL)] := s2'
      clear s2' s1 Y
      go_wp2_with fail
      refine (looks (FB.out _ s2a.below) s2a).mono ?_
      rintro e w3 ⟨rfl, s3'⟩
      clear s2a FB
      have s2 : St w None (w3.alloc (.cells #[.int .i64 0, .int .i64 0, .int .i64 0, .int .u64 0, .int .i64 0, .int .i64 0, .bool false, .bool false, .int .i64 0] 26)) [LisR 5 1 (.slice B 20 c) 20 (bys d1.fullL)] := s3'.alloc _
      clear s3'
      go_upto_region 10 with (fail)
      generalize w3.alloc (.cells #[.int .i64 0, .int .i64 0, .int .i64 0, .int .u64 0, .int .i64 0, .int .i64 0, .bool false, .bool false, .int .i64 0] 26) = w2 at *
      obtain ⟨A', cap', hv, -, -, -, hcell⟩ := s2.lis_cells 0 rfl
      injection hv with hv1 _ hv2
      subst hv1 hv2
      obtain ⟨b, off, rfl, hcc⟩ := hcell.resolve_left (by omega)
      have q0 : w2.cell? ⟨b, off, none⟩ = _ := hcc 0 _ rfl
      have f0 := (s2.lis 0 rfl).frozen off
      have s3' := s2.lis_set 0 rfl (k := 0) (by omega) (.int .u8 m)
      rw [bys_set] at s3'
      have s3 : St w None (w2.setCell ⟨b, off, none⟩ (.int .u8 m)) [LisR 5 1 (.slice (some ⟨b, off, none⟩) 20 c) 20 (bys (xm m))] := s3'
      have rd3 := rd_bys (s3.lis 0 rfl)
      have CK := Lib.hid (check_c (n := 17) (cap := c) (f := fun j => (xm m).getD j 0) (fun h0 => by
        obtain ⟨b', o', h1, h2, h3⟩ := rd3 (by omega)
        exact ⟨b', o', h1, h2, fun j hj => h3 j (by omega)⟩) (fun j hj => xm_bd hmb j (by omega)) (by omega))
      have hsb := chk_bd (fun j => (xm m).getD j 0) 17
      obtain ⟨s, hs⟩ : ∃ s, chk (fun j => (xm m).getD j 0) 17 = s := ⟨_, rfl⟩
      rw [hs] at CK hsb
      have HS := Lib.hid hs
      have S3 := Lib.hid s3
      have hcl := (lis_cap (s3.lis 0 rfl)).1
      have k17 : (17 : Int) ≤ (c : Int) := by omega
      clear s3 s3' s2 hcell hcc rd3 hs
      go_wp2_with fail
      refine CK.out.mono ?_
      rintro e w4 ⟨rfl, rfl⟩
      clear CK q0 f0
      have s3 := S3.out
      generalize w2.setCell ⟨b, off, none⟩ (.int .u8 m) = wx at *
      have hl0 : (xm m).length = 20 := by simp [d1_len]
      obtain ⟨y17, h17⟩ := getq (xs := xm m) (i := 17) (by omega)
      obtain ⟨A', cap', hv, -, -, -, hcell⟩ := s3.lis_cells 0 rfl
      injection hv with hv1 _ hv2
      subst hv1 hv2
      obtain ⟨b', off', hbo, hcc⟩ := hcell.resolve_left (by omega)
      obtain ⟨rfl, rfl⟩ : b = b' ∧ off = off' := by simpa using hbo
      have q17 := hcc 17 _ (bys_get h17)
      have f17 := (s3.lis 0 rfl).frozen (off + 17)
      have s4 := s3.lis_set 0 rfl (k := 17) (by omega) (.int .u8 (s / 65536))
      rw [bys_set] at s4
      obtain ⟨y18, h18⟩ := getq (xs := (xm m).set 17 (s / 65536)) (i := 18) (by rw [List.length_set]; omega)
      obtain ⟨A', cap', hv, -, -, -, hcell2⟩ := s4.lis_cells 0 rfl
      injection hv with hv1 _ hv2
      subst hv1 hv2
      obtain ⟨b', off', hbo, hcc2⟩ := hcell2.resolve_left (by omega)
      obtain ⟨rfl, rfl⟩ : b = b' ∧ off = off' := by simpa using hbo
      have q18 := hcc2 18 _ (bys_get h18)
      have f18 := (s4.lis 0 rfl).frozen (off + 18)
      have s5 := s4.lis_set 0 rfl (k := 18) (by omega) (.int .u8 (s / 256 % 256))
      rw [bys_set] at s5
      obtain ⟨y19, h19⟩ := getq (xs := ((xm m).set 17 (s / 65536)).set 18 (s / 256 % 256)) (i := 19) (by rw [List.length_set, List.length_set]; omega)
      obtain ⟨A', cap', hv, -, -, -, hcell3⟩ := s5.lis_cells 0 rfl
      injection hv with hv1 _ hv2
      subst hv1 hv2
      obtain ⟨b', off', hbo, hcc3⟩ := hcell3.resolve_left (by omega)
      obtain ⟨rfl, rfl⟩ : b = b' ∧ off = off' := by simpa using hbo
      have q19 := hcc3 19 _ (bys_get h19)
      have f19 := (s5.lis 0 rfl).frozen (off + 19)
      have s6 := s5.lis_set 0 rfl (k := 19) (by omega) (.int .u8 (s % 256))
      rw [bys_set] at s6
      obtain ⟨D, cc, hD, hDm⟩ := xf_isD hmb HS.out.symm
      have FR := Lib.hid (from_xs s6 0 rfl (xf_bd hmb hsb) D cc hD)
      have g17 : s / 65536 % 256 = s / 65536 := by omega
      unfold Dsc.v at FR
      clear s3 s4 s5 s6 S3 hcc hcc2 hcc3 hcell hcell2 hcell3 h17 h18 h19 hD hl0 hbo
      go_wp2_with fail
      refine FR.out.mono ?_
      rintro e w7 ⟨rfl, s7⟩
      rcases hDm with ⟨h64, rfl, rfl⟩ | ⟨h64, rfl, rfl⟩
      · have d64 : decide (m < 64) = true := decide_eq_true h64
        have wm : IntKind.i64.wrap m = m := IntWalk.i64_in _ ⟨by omega, by omega⟩
        have hmod : m.tmod 16 = m % 16 := Int.tmod_eq_emod_of_nonneg hmb.1
        have s8 := s7.box 26 (dm m).cells
        unfold dm
        go_wp2_with fail
        go_ret
        exact ⟨rfl, s8.below⟩
      · have d64 : decide (m < 64) = false := decide_eq_false (by omega)
        have s8 := s7.box 26 Dsc.zero.cells
        go_wp2_with fail
        go_ret
        exact ⟨rfl, s8.below⟩

set_option maxRecDepth 100000 in
theorem lifted (os : Os) (started : os.Started) (H : Type) (enc : TypeId × Value → H) :
    ReturnsInHanded {} Try.checked os 8 .any (Rows.descLensSpec.pre6 enc Try.prog Try.f8 Rows.descLensRow.domain false) (Rows.descLensSpec.post enc Try.prog Try.f8 false true false false) := by
  refine law_lifted (C := Try.checked) (tb := 4) own started (by kernel_rfl) Try.func8
    (ChangeSpec.witness6 (enc := enc) (C := Try.checked) false ⟨#[], #[.slice none 0 0, .int .u8 0], []⟩ 8 (by kernel_rfl) (by kernel_rfl) (by kernel_rfl) (by kernel_rfl)) laid (by kernel_rfl) (by kernel_rfl) Try.underlying4 rfl ?_
  intro W base args ds ps hval0 hA0 hlt
  have hval : ∀ (j : Nat) t v, Try.f8.params[j]? = some t → args[j]? = some v → Value.okWide Try.prog W .any base t v := hval0
  have hA : DataW.TrodAll enc Try.prog W 0 (fun _ => true) true Try.f8.params.toList args.toList ds ps := hA0
  clear hA0 hval0
  rw [Try.params8] at hA hval
  obtain ⟨v0, vs0, d0, ds0, p0, q0, hargs, rfl, rfl, h0, r0⟩ := trodAll_cons hA
  obtain ⟨v1, vs1, d1, ds1, p1, q1, rfl, rfl, rfl, h1, r1⟩ := trodAll_cons r0
  obtain ⟨rfl, rfl, rfl⟩ := trodAll_nil r1
  obtain rfl : args = #[v0, v1] := by cases args; simp_all
  obtain ⟨A0, n0, cap0, f0, rfl, le0, mx0, wf0, rd0⟩ := open_slice_ints Try.underlying28 Try.underlying5 (by kernel_rfl) (hval 0 28 v0 rfl rfl) h0
  obtain ⟨a1, rfl, rfl, rfl, w1⟩ := open_int Try.underlying5 (hval 1 5 v1 rfl rfl) h1
  refine ⟨⟨rfl, rfl, rfl⟩, ?_⟩
  exact walk A0 n0 cap0 f0 a1 W (bounds_u8 w1) ⟨le0, by omega⟩ rd0 (fun i => bounds_u8 (wf0 i))

theorem over : Rows.descLensRow.holds Try.pinned (OpenSpec.ofChange Rows.descLensSpec) :=
  OpenClaim.holds_of_wide 8 Try.f8 rfl rfl rfl rfl rfl rfl rfl ⟨rfl, rfl, rfl, rfl, rfl⟩ rfl rfl rfl rfl rfl (by kernel_rfl) Try.func8 (by kernel_rfl)
    (of_decide_eq_true (by kernel_rfl)) (by unfold Func.isWrapper; first | (rw [if_pos (by decide +kernel)]; kernel_rfl) | (rw [if_neg (by decide +kernel)]; exact ⟨rfl, rfl⟩))
    (fun os started H enc _ => lifted os started H enc)
theorem proved : Rows.DescLensSaid := over
#print axioms proved
end Go.Proofs.Ytninpnlmmaleaaa.descLens
