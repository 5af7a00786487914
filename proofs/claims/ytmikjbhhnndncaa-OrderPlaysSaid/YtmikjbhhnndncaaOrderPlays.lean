/-
  For every script OrderPlays answers true, and changes nothing: each answer, the next one, the head, and all in order, are what the document says. No condition.
-/
import Derived.Test.YtmikjbhhnndncaaRows
import Derived.Test.YtmikjbhhnndncaaFr
import Derived.Test.YtmikjbhhnndncaaOrd1
import Derived.Test.YtmikjbhhnndncaaOrdB
import Derived.Deep.DeepCutAuto
import Derived.Deep.CutBlock
import Derived.Deep.RegionHeld3
import Derived.Test.YtmikjbhhnndncaaOpen
import Derived.Test.YtmikjbhhnndncaaRd
namespace Go.Proofs.Ytmikjbhhnndncaa.orderPlays
open Go.ChangeShapes Go.WideShapes Go.ChangeAt Go.RowKit
set_option linter.unusedVariables false
theorem own : ownKnob Try.prog.godebug = none := by kernel_rfl
theorem laid : laidOutB Try.prog = true := by kernel_rfl
set_option maxRecDepth 100000
set_option maxHeartbeats 8000000
theorem walk (A : Option Addr) (n cap : Nat) (V : Nat → Nat → Value) (w : World) (hm : n ≤ maxLen) (rd : RdM w A n 4 V) (hV : ∀ j, j < n → ∃ (z : Int) (x : Wt), V j 0 = .int .i64 z ∧ V j 1 = .int .i64 x.id ∧ V j 2 = .int .u64 x.dead ∧ V j 3 = .int .i64 x.track ∧ 0 ≤ x.dead) :
    Calls Try.prog 3 #[.slice A n cap] w fun r w' => r = .returned (.bool true) ∧ Below w.heap.size w w' := by
  unfold maxLen at hm
  have RD := Lib.hid rd
  have HV := Lib.hid hV
  clear rd hV
  have AW := Lib.hid (awake_o (St.begin w))
  go_enter Try.func3, Try.ntmps3
  go_wp2_with fail
  refine AW.out.mono ?_
  rintro r w1 ⟨rfl, s1⟩
  have N1 := Lib.hid (New_o s1)
  clear s1 AW
  go_wp2_with fail
  refine N1.out.mono ?_
  rintro r w2 ⟨q, rfl, s2⟩
  have S3 := Lib.hid (show St w None (w2.alloc (.cells #[.slice none 0 0, .int .i64 0, .bool false] 29)) [OQR q OSt.new, RQR w2.heap.size OSt.new] from rnew s2)
  clear s2 N1
  obtain ⟨r, hr⟩ : ∃ r, r = w2.heap.size := ⟨_, rfl⟩
  have HR := Lib.hid hr
  clear hr
  go_wp2_with fail
  go_loopw [5] (fun i wr => ∃ (k : Nat) (s : OSt), k ≤ n ∧ k ≤ 150 ∧ i = .int .i64 k ∧ s.ok ∧ St w None wr [OQR q s, RQR w2.heap.size s]) (fun i _ => n - (intOf i).toNat)
  case atStart => exact ⟨0, OSt.new, by omega, by omega, rfl, OSt.new_ok, S3.out⟩
  case round =>
    clear S3
    obtain ⟨k, s, hk, hk2, rfl, hok, sr⟩ := hrel
    rw [← HR.out] at sr ⊢
    have SR := Lib.hid sr
    have OK := Lib.hid hok
    by_cases hkn : k < n
    case neg =>
      clear sr hok
      go_wp2_with fail
      go_ret
      exact ⟨rfl, SR.out.below⟩
    have t0 : decide ((k : Int) < (n : Int)) = true := decide_eq_true (by omega)
    have t0' : decide (k < n) = true := decide_eq_true hkn
    by_cases hkn2 : k < 150
    case neg =>
      have t1 : decide ((k : Int) < 150) = false := decide_eq_false (by omega)
      have t1' : decide (k < 150) = false := decide_eq_false hkn2
      clear sr hok hkn2 hkn hk2 hk
      go_wp2_with fail
      go_ret
      exact ⟨rfl, SR.out.below⟩
    have t1 : decide ((k : Int) < 150) = true := decide_eq_true (by omega)
    have t1' : decide (k < 150) = true := decide_eq_true hkn2
    obtain ⟨ib, off, rfl, e0, e1, e2, e3⟩ := RD.out.at4 sr.below hkn
    obtain ⟨z, x, v0, v1, v2, v3, hx0⟩ := HV.out k hkn
    rw [v0] at e0
    rw [v1] at e1
    rw [v2] at e2
    rw [v3] at e3
    have HX0 := Lib.hid hx0
    have sb : St w None (wr.alloc (.cells #[.int .i64 z, .int .i64 x.id, .int .u64 x.dead, .int .i64 x.track] 34)) [OQR q s, RQR r s, BlkR wr.heap.size 34 #[.int .i64 z, .int .i64 x.id, .int .u64 x.dead, .int .i64 x.track]] := St.box (L := [_, _]) sr _ _
    obtain ⟨db, hdb⟩ : ∃ db, wr.heap.size = db := ⟨_, rfl⟩
    rw [hdb] at sb
    have SB := Lib.hid sb
    obtain ⟨b0, b1, b2, b3⟩ := (sb.blk 2 rfl).four
    clear sr hok sb v0 v1 v2 v3 SR hx0
    go_upto_block 2 with (fail)
    generalize wr.alloc (.cells #[.int .i64 z, .int .i64 x.id, .int .u64 x.dead, .int .i64 x.track] 34) = wB at *
    clear e0 e1 e2 e3
    go_cut [] (fun wx => ∃ s' : OSt, s'.ok ∧ St w None wx [OQR q s', RQR r s'])
    case first =>
      by_cases h0 : z = 0
      · subst h0
        obtain ⟨f, s', hP⟩ := addP_ex s x
        have HP := Lib.hid hP
        have OK' := Lib.hid (hP.ok OK.out)
        obtain ⟨mb, hmb⟩ : ∃ mb, mb = decide (mayW x) := ⟨_, rfl⟩
        have MC := Lib.hid (fun W => May_c x W HX0.out mb hmb)
        have RC := Lib.hid (fun W => rMay_c x W HX0.out mb hmb)
        unfold Wt.v at MC RC
        have qq := And.intro b1 (And.intro b2 b3)
        have y : (f != f) = false := by simp
        have y2 : (mb != mb) = false := by simp
        clear hP hmb
        go_wp2_with fail
        go_region_held3 (fun w' => w'.cell? ⟨db, 1, none⟩ = some (.int .i64 x.id) ∧ w'.cell? ⟨db, 2, none⟩ = some (.int .u64 x.dead) ∧ w'.cell? ⟨db, 3, none⟩ = some (.int .i64 x.track)) (go_keep)
          (first
            | (go_at_call 11; refine (Add_o SB.out.drew 0 rfl OK.out HX0.out HP.out).mono ?_; rintro r' w6 ⟨rfl, s6⟩; have S6 := Lib.hid s6; have q6 := (s6.blk 2 rfl).four.2; clear s6)
            | (go_at_call 12; refine (rAdd_o S6.out 1 rfl OK.out HX0.out HP.out).mono ?_; rintro r' w7 ⟨rfl, s7⟩; have S7 := Lib.hid (show St w None w7 [OQR q s', RQR r s', BlkR db 34 #[.int .i64 0, .int .i64 x.id, .int .u64 x.dead, .int .i64 x.track]] from s7); have q7 := (s7.blk 2 rfl).four.2; clear s7)
            | (go_at_call 13; refine (looks (MC.out _) S7.out).mono ?_; rintro r' w9 ⟨rfl, s9⟩; have S9 := Lib.hid s9; have q9 := (s9.blk 2 rfl).four.2; clear s9)
            | (go_at_call 14; refine (looks (RC.out _) S9.out).mono ?_; rintro r' w10 ⟨rfl, s10⟩; have S10 := Lib.hid s10; have q10 := (s10.blk 2 rfl).four.2; clear s10))
        have S8 := Lib.hid (show St w None w10 [OQR q s', RQR r s'] from S10.out.take 2)
        clear b0 b1 b2 b3 qq q6 q7 q9 q10 S6 S7 S9 S10 SB HP MC RC
        go_wp2_with fail
        go_meet
        exact ⟨s', OK'.out, S8.out⟩
      have z0 : (z == 0) = false := beq_eq_false_iff_ne.2 h0
      by_cases h1 : z = 1
      · subst h1
        obtain ⟨f, s', hP⟩ := dropP_ex s x.id
        have HP := Lib.hid hP
        have OK' := Lib.hid (hP.ok OK.out)
        have y : (f != f) = false := by simp
        clear hP
        go_wp2_with fail
        go_region_held3 (fun w' => w'.cell? ⟨db, 1, none⟩ = some (.int .i64 x.id)) (go_keep)
          (first
            | (go_at_call 15; refine (Drop_o SB.out.drew 0 rfl OK.out HP.out).mono ?_; rintro r' w6 ⟨rfl, s6⟩; have S6 := Lib.hid s6; have q6 := (s6.blk 2 rfl).four.2.1; clear s6)
            | (go_at_call 16; refine (rDrop_o S6.out 1 rfl OK.out HP.out).mono ?_; rintro r' w7 ⟨rfl, s7⟩; have S7 := Lib.hid s7; have q7 := (s7.blk 2 rfl).four.2.1; clear s7))
        have S8 := Lib.hid (show St w None w7 [OQR q s', RQR r s'] from S7.out.take 2)
        clear b0 b1 b2 b3 q6 q7 S6 S7 SB HP
        go_wp2_with fail
        go_meet
        exact ⟨s', OK'.out, S8.out⟩
      have z1 : (z == 1) = false := beq_eq_false_iff_ne.2 h1
      obtain ⟨v, f, s', hT⟩ := takeP_ex OK.out
      have CT := Lib.hid (Take_o SB.out 0 rfl OK.out hT)
      have HT := Lib.hid hT
      have OK' := Lib.hid (hT.ok OK.out)
      have y1 : (v.id == v.id) = true := beq_self_eq_true _
      have y2 : (v.dead == v.dead) = true := beq_self_eq_true _
      have y3 : (v.track == v.track) = true := beq_self_eq_true _
      have y4 : (f != f) = false := by simp
      clear hT SB b0 b1 b2 b3
      go_wp2_with fail
      refine CT.out.mono ?_
      rintro r' w6 ⟨rfl, s6'⟩
      have s6 : St w None (w6.alloc (.cells #[.int .i64 v.id, .int .u64 v.dead, .int .i64 v.track] 32)) [OQR q s', RQR r s, BlkR w6.heap.size 32 #[.int .i64 v.id, .int .u64 v.dead, .int .i64 v.track]] := St.box (L := [_, _]) (s6'.take 2) _ _
      have FR := Lib.hid (rTake_o s6 1 rfl OK.out HT.out)
      clear CT s6 s6'
      go_wp2_with fail
      refine FR.out.mono ?_
      rintro r' w7 ⟨rfl, s7'⟩
      have s7 : St w None (w7.alloc (.cells #[.int .i64 v.id, .int .u64 v.dead, .int .i64 v.track] 32)) [OQR q s', RQR r s', BlkR w6.heap.size 32 #[.int .i64 v.id, .int .u64 v.dead, .int .i64 v.track], BlkR w7.heap.size 32 #[.int .i64 v.id, .int .u64 v.dead, .int .i64 v.track]] := St.box (L := [_, _, _]) s7' _ _
      obtain ⟨c0, c1, c2⟩ := (s7.blk 2 rfl).three
      obtain ⟨d0, d1, d2⟩ := (s7.blk 3 rfl).three
      have S8 := Lib.hid (show St w None _ [OQR q s', RQR r s'] from s7.take 2)
      clear FR s7 s7' HT
      go_wp2_with fail
      go_meet
      exact ⟨s', OK'.out, S8.out⟩
    case rest =>
      obtain ⟨s', hok', s8⟩ := hcut
      clear b0 b1 b2 b3 SB OK
      obtain ⟨x1, up, f, hN⟩ := nextP_ex hok'
      have NX := Lib.hid (Next_o s8 0 rfl hok' hN)
      have OK := Lib.hid hok'
      have HN := Lib.hid hN
      clear hN s8 hok'
      go_wp2_with fail
      refine NX.out.mono ?_
      rintro r' w9 ⟨rfl, s9'⟩
      have s9 : St w None (w9.alloc (.cells #[.int .i64 x1.id, .int .u64 x1.dead, .int .i64 x1.track] 32)) [OQR q s', RQR r s', BlkR w9.heap.size 32 #[.int .i64 x1.id, .int .u64 x1.dead, .int .i64 x1.track]] := St.box (L := [_, _]) s9' _ _
      obtain ⟨T9, hT9⟩ := s9.get 1 rfl
      have RN := Lib.hid (rNext_c hT9 OK.out)
      have S9 := Lib.hid s9
      obtain ⟨xb, hxb⟩ : ∃ xb, xb = w9.heap.size := ⟨_, rfl⟩
      clear NX s9 s9' hT9
      go_wp2_with fail
      refine RN.out.mono ?_
      rintro r' w10 ⟨zz, bb, rfl, hR, hb⟩
      have s10 := S9.out.stay hb
      rw [← hxb] at s10 ⊢
      have HRN := Lib.hid hR
      have HE := Lib.hid (Head_o s10 0 rfl)
      obtain ⟨hd, hhd⟩ : ∃ hd, hd = s'.head := ⟨_, rfl⟩
      obtain ⟨ud, hud⟩ : ∃ ud, ud = s'.up := ⟨_, rfl⟩
      obtain ⟨m, hm'⟩ : ∃ m, m = s'.l.length := ⟨_, rfl⟩
      have HMM := Lib.hid hm'
      have HHU := Lib.hid (And.intro hhd hud)
      rw [← hhd, ← hud] at HE
      clear RN S9 hR hb s10 hhd hud hm' hxb
      go_wp2_with fail
      refine HE.out.mono ?_
      rintro r' w11 ⟨rfl, s11⟩
      have S11 := Lib.hid s11
      obtain ⟨T1, A1, c1, hT1⟩ := s11.get 1 rfl
      have sT := St.start hT1
      have ST := Lib.hid (show St w11 T1 w11 [BlkR r 29 #[.slice A1 m c1, .int .i64 s'.head, .bool (!s'.up)], LisR 32 3 (.slice A1 m c1) m (ovs s'.l)] by rw [HMM.out]; exact sT)
      have CE0 := Lib.hid (show ∀ W, Below w11.heap.size w11 W → W.cell? ⟨r, 0, none⟩ = some (.slice A1 m c1) ∧ W.cell? ⟨r, 1, none⟩ = some (.int .i64 hd) ∧ W.cell? ⟨r, 2, none⟩ = some (.bool (!ud)) ∧ W.cell? ⟨xb, 0, none⟩ = some (.int .i64 x1.id) ∧ W.cell? ⟨xb, 1, none⟩ = some (.int .u64 x1.dead) ∧ W.cell? ⟨xb, 2, none⟩ = some (.int .i64 x1.track) from fun W hb => by
        obtain ⟨g0, g1, g2⟩ := ((sT.stay hb).blk 0 rfl).three
        obtain ⟨h0, h1, h2⟩ := ((S11.out.stay hb).blk 2 rfl).three
        rw [HMM.out, HHU.out.1, HHU.out.2]
        exact ⟨g0, g1, g2, h0, h1, h2⟩)
      have AC := Lib.hid (show ∀ W, Below w11.heap.size w11 W → Calls Try.prog 23 #[.pointer (some ⟨q, 0, none⟩)] W (fun e w' => ∃ B d l', e = .returned (.slice B m d) ∧ l'.Perm s'.l ∧ l'.Pairwise (fun x y => ¬ lt3 y x) ∧ St W None w' [LisR 32 3 (.slice B m d) m (ovs l')]) from fun W hb => by
        obtain ⟨T, hT⟩ := (S11.out.stay hb).get 0 rfl
        refine (All_c hT OK.out).mono ?_
        rintro e w' ⟨B, d, l', he, h1, h2, h3⟩
        rw [HMM.out]
        exact ⟨B, d, l', he, h1, pair_of h2, h3⟩)
      have BC := Lib.hid (show ∀ W, Below w11.heap.size w11 W → Calls Try.prog 24 #[.pointer (some ⟨r, 0, none⟩)] W (fun e w' => ∃ B d l', e = .returned (.slice B m d) ∧ l'.Perm s'.l ∧ l'.Pairwise (fun x y => ¬ lt3 y x) ∧ St W None w' [LisR 32 3 (.slice B m d) m (ovs l')]) from fun W hb => by
        obtain ⟨T, hT⟩ := (S11.out.stay hb).get 1 rfl
        refine (rAll_c hT OK.out).mono ?_
        rintro e w' ⟨B, d, l', he, h1, h2, h3⟩
        rw [HMM.out]
        exact ⟨B, d, l', he, h1, pair_of h2, h3⟩)
      have hm64 : m ≤ 64 := by have := OK.out.len; have := HMM.out; omega
      have SC := Lib.hid (show ∀ (W0 W : World) (B1 B2 : Option Addr) (d1 d2 : Nat) (l1 l2 : List Wt), (l1.Perm s'.l ∧ l1.Pairwise (fun x y => ¬ lt3 y x)) → (l2.Perm s'.l ∧ l2.Pairwise (fun x y => ¬ lt3 y x)) → St W0 None W [LisR 32 3 (.slice B1 m d1) m (ovs l1), LisR 32 3 (.slice B2 m d2) m (ovs l2)] → Calls Try.prog 22 #[.slice B1 m d1, .slice B2 m d2] W fun e w' => e = .returned (.bool true) ∧ Below W.heap.size W w' from fun W0 W B1 B2 d1 d2 l1 l2 h1 h2 K => by
        obtain rfl := one_sorted (h1.1.trans h2.1.symm) h1.2 h2.2
        exact rSame_c (i := 0) (j := 1) K rfl rfl (by omega))
      have y1 : (x1.id == x1.id) = true := beq_self_eq_true _
      have y2 : (x1.dead == x1.dead) = true := beq_self_eq_true _
      have y3 : (x1.track == x1.track) = true := beq_self_eq_true _
      have y4 : (hd != hd) = false := by simp
      have y5 : (ud == !ud) = false := by cases ud <;> rfl
      have u1 : (true != true) = false := rfl
      have u2 : (false != false) = false := rfl
      have S12 := Lib.hid (show St w None w11 [OQR q s', RQR r s'] from S11.out.take 2)
      have hRN := HRN.out
      obtain ⟨x', up', f', hn', hc⟩ := hRN
      obtain ⟨rfl, rfl, rfl⟩ := NextP.uniq OK.out HN.out hn'
      have HZ := Lib.hid hc
      have HN' := HN
      clear hc hn' s11 sT hT1 HE HRN
      rcases HZ.out with ⟨rfl, rfl, rfl⟩ | ⟨rfl, hbb, i, rfl, hi⟩
      · obtain ⟨j1, j2, j3⟩ : x1.id = 0 ∧ x1.dead = 0 ∧ x1.track = 0 := by
          rcases HN.out with ⟨_, h, _⟩ | ⟨_, _, h⟩ | ⟨_, _, _, h⟩
          · rw [h]; exact ⟨rfl, rfl, rfl⟩
          · omega
          · omega
        rw [j1, j2, j3] at CE0
        have CE := CE0
        obtain ⟨g0, g1, g2, h0, h1, h2⟩ := CE.out _ (Below.refl _ _)
        clear j1 j2 j3 y1 y2 y3 HZ HN HN' CE0
        go_wp2_with fail
        refine wp_region_held_drew (S := (fun W => W.cell? ⟨r, 0, none⟩ = some (.slice A1 m c1) ∧ W.cell? ⟨r, 1, none⟩ = some (.int .i64 hd) ∧ W.cell? ⟨r, 2, none⟩ = some (.bool (!ud)) ∧ W.cell? ⟨xb, 0, none⟩ = some (.int .i64 0) ∧ W.cell? ⟨xb, 1, none⟩ = some (.int .u64 0) ∧ W.cell? ⟨xb, 2, none⟩ = some (.int .i64 0))) (by kernel_rfl) ?_ (fun hHeld => ?_)
        · (try dsimp only); go_keep
        refine wpAnyH_take (i := 0) (oi := { dst := some 104, op := Op.move (Operand.tmp 12), type := 35, pos := "law.go:66", after := #[], guard := none }) (v := ?_) rfl (by kernel_rfl) (by kernel_rfl) (by kernel_rfl) (fun _ _ _ h => h) (Or.inl ⟨by rfl, ?_⟩) hHeld ?_
        rotate_left
        · intro wz hSw; (try dsimp only at hSw); go_simp; try (with_reducible rfl)
        try simp only [Act.put, List.setIfInBounds_toArray, List.set_cons_zero, List.set_cons_succ]
        refine wpAnyH_take (i := 1) (oi := { dst := some 105, op := Op.binOp BinOp.eql 35 (Operand.tmp 104) (Operand.const (Value.int IntKind.i64 0)) 35, type := 4, pos := "law.go:66", after := #[{ on := 0, ground := Ground.data }], guard := none }) (v := ?_) rfl (by kernel_rfl) (by kernel_rfl) (by kernel_rfl) (fun _ _ _ h => h) (Or.inl ⟨by rfl, ?_⟩) hHeld ?_
        rotate_left
        · intro wz hSw; (try dsimp only at hSw); go_simp; try (with_reducible rfl)
        try simp only [Act.put, List.setIfInBounds_toArray, List.set_cons_zero, List.set_cons_succ]
        refine wpAnyH_take (i := 2) (oi := { dst := some 106, op := Op.move (Operand.tmp 13), type := 3, pos := "law.go:66", after := #[], guard := none }) (v := ?_) rfl (by kernel_rfl) (by kernel_rfl) (by kernel_rfl) (fun _ _ _ h => h) (Or.inl ⟨by rfl, ?_⟩) hHeld ?_
        rotate_left
        · intro wz hSw; (try dsimp only at hSw); go_simp; try (with_reducible rfl)
        try simp only [Act.put, List.setIfInBounds_toArray, List.set_cons_zero, List.set_cons_succ]
        refine wpAnyH_take (i := 3) (oi := { dst := some 107, op := Op.binOp BinOp.geq 3 (Operand.tmp 106) (Operand.const (Value.int IntKind.i64 0)) 3, type := 4, pos := "law.go:66", after := #[{ on := 2, ground := Ground.data }], guard := none }) (v := ?_) rfl (by kernel_rfl) (by kernel_rfl) (by kernel_rfl) (fun _ _ _ h => h) (Or.inl ⟨by rfl, ?_⟩) hHeld ?_
        rotate_left
        · intro wz hSw; (try dsimp only at hSw); go_simp; try (with_reducible rfl)
        try simp only [Act.put, List.setIfInBounds_toArray, List.set_cons_zero, List.set_cons_succ]
        refine wpAnyH_take (i := 4) (oi := { dst := some 108, op := Op.binOp BinOp.neq 4 (Operand.tmp 105) (Operand.tmp 107) 4, type := 4, pos := "law.go:66", after := #[{ on := 1, ground := Ground.data }, { on := 3, ground := Ground.data }], guard := none }) (v := ?_) rfl (by kernel_rfl) (by kernel_rfl) (by kernel_rfl) (fun _ _ _ h => h) (Or.inl ⟨by rfl, ?_⟩) hHeld ?_
        rotate_left
        · intro wz hSw; (try dsimp only at hSw); go_simp; try (with_reducible rfl)
        try simp only [Act.put, List.setIfInBounds_toArray, List.set_cons_zero, List.set_cons_succ]
        refine wpAnyH_take (i := 5) (oi := { dst := some 109, op := Op.move (Operand.tmp 108), type := 4, pos := "law.go:66", after := #[{ on := 4, ground := Ground.data }], guard := none }) (v := ?_) rfl (by kernel_rfl) (by kernel_rfl) (by kernel_rfl) (fun _ _ _ h => h) (Or.inl ⟨by rfl, ?_⟩) hHeld ?_
        rotate_left
        · intro wz hSw; (try dsimp only at hSw); go_simp; try (with_reducible rfl)
        try simp only [Act.put, List.setIfInBounds_toArray, List.set_cons_zero, List.set_cons_succ]
        refine wpAnyH_take (i := 6) (oi := { dst := some 110, op := Op.move (Operand.tmp 13), type := 3, pos := "law.go:66", after := #[{ on := 5, ground := Ground.guard }], guard := some (5, false) }) (v := ?_) rfl (by kernel_rfl) (by kernel_rfl) (by kernel_rfl) (fun _ _ _ h => h) (Or.inl ⟨by rfl, ?_⟩) hHeld ?_
        rotate_left
        · intro wz hSw; (try dsimp only at hSw); go_simp; try (with_reducible rfl)
        try simp only [Act.put, List.setIfInBounds_toArray, List.set_cons_zero, List.set_cons_succ]
        refine wpAnyH_take (i := 7) (oi := { dst := some 111, op := Op.binOp BinOp.geq 3 (Operand.tmp 110) (Operand.const (Value.int IntKind.i64 0)) 3, type := 4, pos := "law.go:66", after := #[{ on := 6, ground := Ground.data }, { on := 5, ground := Ground.guard }], guard := some (5, false) }) (v := ?_) rfl (by kernel_rfl) (by kernel_rfl) (by kernel_rfl) (fun _ _ _ h => h) (Or.inl ⟨by rfl, ?_⟩) hHeld ?_
        rotate_left
        · intro wz hSw; (try dsimp only at hSw); go_simp; try (with_reducible rfl)
        try simp only [Act.put, List.setIfInBounds_toArray, List.set_cons_zero, List.set_cons_succ]
        refine wpAnyH_take (i := 8) (oi := { dst := some 112, op := Op.move (Operand.tmp 111), type := 4, pos := "law.go:66", after := #[{ on := 7, ground := Ground.data }, { on := 5, ground := Ground.chain }, { on := 5, ground := Ground.guard }], guard := some (5, false) }) (v := ?_) rfl (by kernel_rfl) (by kernel_rfl) (by kernel_rfl) (fun _ _ _ h => h) (Or.inl ⟨by rfl, ?_⟩) hHeld ?_
        rotate_left
        · intro wz hSw; (try dsimp only at hSw); go_simp; try (with_reducible rfl)
        try simp only [Act.put, List.setIfInBounds_toArray, List.set_cons_zero, List.set_cons_succ]
        refine wpAnyH_take (i := 9) (oi := { dst := some 113, op := Op.load 32 (Operand.tmp 11), type := 32, pos := "law.go:66", after := #[{ on := 8, ground := Ground.guard }], guard := some (8, true) }) (v := undef) rfl (by kernel_rfl) (by kernel_rfl) (by kernel_rfl) (fun _ _ _ h => h) (Or.inr ⟨by rfl, rfl⟩) hHeld ?_
        try simp only [Act.put, List.setIfInBounds_toArray, List.set_cons_zero, List.set_cons_succ]
        refine wpAnyH_take (i := 10) (oi := { dst := some 114, op := Op.move (Operand.tmp 4), type := 26, pos := "law.go:66", after := #[{ on := 8, ground := Ground.guard }], guard := some (8, true) }) (v := undef) rfl (by kernel_rfl) (by kernel_rfl) (by kernel_rfl) (fun _ _ _ h => h) (Or.inr ⟨by rfl, rfl⟩) hHeld ?_
        try simp only [Act.put, List.setIfInBounds_toArray, List.set_cons_zero, List.set_cons_succ]
        refine wpAnyH_take (i := 11) (oi := { dst := some 115, op := Op.nilCheck (Operand.tmp 114), type := 0, pos := "law.go:66", after := #[{ on := 10, ground := Ground.data }, { on := 8, ground := Ground.guard }], guard := some (8, true) }) (v := undef) rfl (by kernel_rfl) (by kernel_rfl) (by kernel_rfl) (fun _ _ _ h => h) (Or.inr ⟨by rfl, rfl⟩) hHeld ?_
        try simp only [Act.put, List.setIfInBounds_toArray, List.set_cons_zero, List.set_cons_succ]
        refine wpAnyH_take (i := 12) (oi := { dst := some 116, op := Op.fieldAddr 29 (Operand.tmp 115) 0, type := 0, pos := "law.go:66", after := #[{ on := 11, ground := Ground.data }, { on := 8, ground := Ground.guard }], guard := some (8, true) }) (v := undef) rfl (by kernel_rfl) (by kernel_rfl) (by kernel_rfl) (fun _ _ _ h => h) (Or.inr ⟨by rfl, rfl⟩) hHeld ?_
        try simp only [Act.put, List.setIfInBounds_toArray, List.set_cons_zero, List.set_cons_succ]
        refine wpAnyH_take (i := 13) (oi := { dst := some 117, op := Op.load 27 (Operand.tmp 116), type := 27, pos := "law.go:66", after := #[{ on := 12, ground := Ground.data }, { on := 8, ground := Ground.guard }], guard := some (8, true) }) (v := undef) rfl (by kernel_rfl) (by kernel_rfl) (by kernel_rfl) (fun _ _ _ h => h) (Or.inr ⟨by rfl, rfl⟩) hHeld ?_
        try simp only [Act.put, List.setIfInBounds_toArray, List.set_cons_zero, List.set_cons_succ]
        refine wpAnyH_take (i := 14) (oi := { dst := some 118, op := Op.move (Operand.tmp 13), type := 3, pos := "law.go:66", after := #[{ on := 8, ground := Ground.guard }], guard := some (8, true) }) (v := undef) rfl (by kernel_rfl) (by kernel_rfl) (by kernel_rfl) (fun _ _ _ h => h) (Or.inr ⟨by rfl, rfl⟩) hHeld ?_
        try simp only [Act.put, List.setIfInBounds_toArray, List.set_cons_zero, List.set_cons_succ]
        refine wpAnyH_take (i := 15) (oi := { dst := some 119, op := Op.indexAddr 27 (Operand.tmp 117) (Operand.tmp 118), type := 0, pos := "law.go:66", after := #[{ on := 13, ground := Ground.data }, { on := 14, ground := Ground.data }, { on := 8, ground := Ground.guard }], guard := some (8, true) }) (v := undef) rfl (by kernel_rfl) (by kernel_rfl) (by kernel_rfl) (fun _ _ _ h => h) (Or.inr ⟨by rfl, rfl⟩) hHeld ?_
        try simp only [Act.put, List.setIfInBounds_toArray, List.set_cons_zero, List.set_cons_succ]
        refine wpAnyH_take (i := 16) (oi := { dst := some 120, op := Op.load 32 (Operand.tmp 119), type := 32, pos := "law.go:66", after := #[{ on := 15, ground := Ground.data }, { on := 8, ground := Ground.guard }], guard := some (8, true) }) (v := undef) rfl (by kernel_rfl) (by kernel_rfl) (by kernel_rfl) (fun _ _ _ h => h) (Or.inr ⟨by rfl, rfl⟩) hHeld ?_
        try simp only [Act.put, List.setIfInBounds_toArray, List.set_cons_zero, List.set_cons_succ]
        refine wpAnyH_take (i := 17) (oi := { dst := some 121, op := Op.binOp BinOp.neq 32 (Operand.tmp 113) (Operand.tmp 120) 32, type := 4, pos := "law.go:66", after := #[{ on := 9, ground := Ground.data }, { on := 16, ground := Ground.data }, { on := 8, ground := Ground.guard }], guard := some (8, true) }) (v := undef) rfl (by kernel_rfl) (by kernel_rfl) (by kernel_rfl) (fun _ _ _ h => h) (Or.inr ⟨by rfl, rfl⟩) hHeld ?_
        try simp only [Act.put, List.setIfInBounds_toArray, List.set_cons_zero, List.set_cons_succ]
        refine wpAnyH_take (i := 18) (oi := { dst := some 122, op := Op.pick (Operand.tmp 112) (Operand.tmp 121) (Operand.const (Value.bool false)), type := 4, pos := "law.go:66", after := #[{ on := 8, ground := Ground.data }, { on := 17, ground := Ground.data }, { on := 5, ground := Ground.guard }], guard := some (5, false) }) (v := ?_) rfl (by kernel_rfl) (by kernel_rfl) (by kernel_rfl) (fun _ _ _ h => h) (Or.inl ⟨by rfl, ?_⟩) hHeld ?_
        rotate_left
        · intro wz hSw; (try dsimp only at hSw); go_simp; try (with_reducible rfl)
        try simp only [Act.put, List.setIfInBounds_toArray, List.set_cons_zero, List.set_cons_succ]
        refine wpAnyH_take (i := 19) (oi := { dst := some 123, op := Op.pick (Operand.tmp 109) (Operand.const (Value.bool true)) (Operand.tmp 122), type := 4, pos := "law.go:66", after := #[{ on := 5, ground := Ground.data }, { on := 18, ground := Ground.data }], guard := none }) (v := ?_) rfl (by kernel_rfl) (by kernel_rfl) (by kernel_rfl) (fun _ _ _ h => h) (Or.inl ⟨by rfl, ?_⟩) hHeld ?_
        rotate_left
        · intro wz hSw; (try dsimp only at hSw); go_simp; try (with_reducible rfl)
        try simp only [Act.put, List.setIfInBounds_toArray, List.set_cons_zero, List.set_cons_succ]
        refine wpAnyH_take (i := 20) (oi := { dst := some 124, op := Op.move (Operand.tmp 123), type := 4, pos := "law.go:66", after := #[{ on := 19, ground := Ground.data }, { on := 8, ground := Ground.chain }], guard := none }) (v := ?_) rfl (by kernel_rfl) (by kernel_rfl) (by kernel_rfl) (fun _ _ _ h => h) (Or.inl ⟨by rfl, ?_⟩) hHeld ?_
        rotate_left
        · intro wz hSw; (try dsimp only at hSw); go_simp; try (with_reducible rfl)
        try simp only [Act.put, List.setIfInBounds_toArray, List.set_cons_zero, List.set_cons_succ]
        refine wpAnyH_take (i := 21) (oi := { dst := some 125, op := Op.move (Operand.tmp 13), type := 3, pos := "law.go:66", after := #[{ on := 20, ground := Ground.guard }], guard := some (20, false) }) (v := ?_) rfl (by kernel_rfl) (by kernel_rfl) (by kernel_rfl) (fun _ _ _ h => h) (Or.inl ⟨by rfl, ?_⟩) hHeld ?_
        rotate_left
        · intro wz hSw; (try dsimp only at hSw); go_simp; try (with_reducible rfl)
        try simp only [Act.put, List.setIfInBounds_toArray, List.set_cons_zero, List.set_cons_succ]
        refine wpAnyH_take (i := 22) (oi := { dst := some 126, op := Op.binOp BinOp.lss 3 (Operand.tmp 125) (Operand.const (Value.int IntKind.i64 0)) 3, type := 4, pos := "law.go:66", after := #[{ on := 21, ground := Ground.data }, { on := 20, ground := Ground.guard }], guard := some (20, false) }) (v := ?_) rfl (by kernel_rfl) (by kernel_rfl) (by kernel_rfl) (fun _ _ _ h => h) (Or.inl ⟨by rfl, ?_⟩) hHeld ?_
        rotate_left
        · intro wz hSw; (try dsimp only at hSw); go_simp; try (with_reducible rfl)
        try simp only [Act.put, List.setIfInBounds_toArray, List.set_cons_zero, List.set_cons_succ]
        refine wpAnyH_take (i := 23) (oi := { dst := some 127, op := Op.move (Operand.tmp 126), type := 4, pos := "law.go:66", after := #[{ on := 22, ground := Ground.data }, { on := 20, ground := Ground.chain }, { on := 20, ground := Ground.guard }], guard := some (20, false) }) (v := ?_) rfl (by kernel_rfl) (by kernel_rfl) (by kernel_rfl) (fun _ _ _ h => h) (Or.inl ⟨by rfl, ?_⟩) hHeld ?_
        rotate_left
        · intro wz hSw; (try dsimp only at hSw); go_simp; try (with_reducible rfl)
        try simp only [Act.put, List.setIfInBounds_toArray, List.set_cons_zero, List.set_cons_succ]
        refine wpAnyH_take (i := 24) (oi := { dst := some 128, op := Op.move (Operand.tmp 12), type := 35, pos := "law.go:66", after := #[{ on := 23, ground := Ground.guard }], guard := some (23, true) }) (v := ?_) rfl (by kernel_rfl) (by kernel_rfl) (by kernel_rfl) (fun _ _ _ h => h) (Or.inl ⟨by rfl, ?_⟩) hHeld ?_
        rotate_left
        · intro wz hSw; (try dsimp only at hSw); go_simp; try (with_reducible rfl)
        try simp only [Act.put, List.setIfInBounds_toArray, List.set_cons_zero, List.set_cons_succ]
        refine wpAnyH_take (i := 25) (oi := { dst := some 129, op := Op.binOp BinOp.neq 35 (Operand.tmp 128) (Operand.const (Value.int IntKind.i64 5)) 35, type := 4, pos := "law.go:66", after := #[{ on := 24, ground := Ground.data }, { on := 23, ground := Ground.guard }], guard := some (23, true) }) (v := ?_) rfl (by kernel_rfl) (by kernel_rfl) (by kernel_rfl) (fun _ _ _ h => h) (Or.inl ⟨by rfl, ?_⟩) hHeld ?_
        rotate_left
        · intro wz hSw; (try dsimp only at hSw); go_simp; try (with_reducible rfl)
        try simp only [Act.put, List.setIfInBounds_toArray, List.set_cons_zero, List.set_cons_succ]
        refine wpAnyH_take (i := 26) (oi := { dst := some 130, op := Op.move (Operand.tmp 129), type := 4, pos := "law.go:66", after := #[{ on := 25, ground := Ground.data }, { on := 23, ground := Ground.chain }, { on := 23, ground := Ground.guard }], guard := some (23, true) }) (v := ?_) rfl (by kernel_rfl) (by kernel_rfl) (by kernel_rfl) (fun _ _ _ h => h) (Or.inl ⟨by rfl, ?_⟩) hHeld ?_
        rotate_left
        · intro wz hSw; (try dsimp only at hSw); go_simp; try (with_reducible rfl)
        try simp only [Act.put, List.setIfInBounds_toArray, List.set_cons_zero, List.set_cons_succ]
        refine wpAnyH_take (i := 27) (oi := { dst := some 131, op := Op.load 32 (Operand.tmp 11), type := 32, pos := "law.go:66", after := #[{ on := 26, ground := Ground.guard }], guard := some (26, false) }) (v := ?_) rfl (by kernel_rfl) (by kernel_rfl) (by kernel_rfl) (fun _ _ _ h => h) (Or.inl ⟨by rfl, ?_⟩) hHeld ?_
        rotate_left
        · intro wz hSw; (try dsimp only at hSw); go_simp; try (with_reducible rfl)
        try simp only [Act.put, List.setIfInBounds_toArray, List.set_cons_zero, List.set_cons_succ]
        refine wpAnyH_take (i := 28) (oi := { dst := some 132, op := Op.build 32 #[], type := 32, pos := "law.go:66", after := #[{ on := 26, ground := Ground.guard }], guard := some (26, false) }) (v := ?_) rfl (by kernel_rfl) (by kernel_rfl) (by kernel_rfl) (fun _ _ _ h => h) (Or.inl ⟨by rfl, ?_⟩) hHeld ?_
        rotate_left
        · intro wz hSw; (try dsimp only at hSw); go_simp; try (with_reducible rfl)
        try simp only [Act.put, List.setIfInBounds_toArray, List.set_cons_zero, List.set_cons_succ]
        refine wpAnyH_take (i := 29) (oi := { dst := some 133, op := Op.binOp BinOp.neq 32 (Operand.tmp 131) (Operand.tmp 132) 32, type := 4, pos := "law.go:66", after := #[{ on := 27, ground := Ground.data }, { on := 28, ground := Ground.data }, { on := 26, ground := Ground.guard }], guard := some (26, false) }) (v := ?_) rfl (by kernel_rfl) (by kernel_rfl) (by kernel_rfl) (fun _ _ _ h => h) (Or.inl ⟨by rfl, ?_⟩) hHeld ?_
        rotate_left
        · intro wz hSw; (try dsimp only at hSw); go_simp; try (with_reducible rfl)
        try simp only [Act.put, List.setIfInBounds_toArray, List.set_cons_zero, List.set_cons_succ]
        refine wpAnyH_take (i := 30) (oi := { dst := some 134, op := Op.pick (Operand.tmp 130) (Operand.const (Value.bool true)) (Operand.tmp 133), type := 4, pos := "law.go:66", after := #[{ on := 26, ground := Ground.data }, { on := 29, ground := Ground.data }, { on := 23, ground := Ground.guard }], guard := some (23, true) }) (v := ?_) rfl (by kernel_rfl) (by kernel_rfl) (by kernel_rfl) (fun _ _ _ h => h) (Or.inl ⟨by rfl, ?_⟩) hHeld ?_
        rotate_left
        · intro wz hSw; (try dsimp only at hSw); go_simp; try (with_reducible rfl)
        try simp only [Act.put, List.setIfInBounds_toArray, List.set_cons_zero, List.set_cons_succ]
        refine wpAnyH_take (i := 31) (oi := { dst := some 135, op := Op.pick (Operand.tmp 127) (Operand.tmp 134) (Operand.const (Value.bool false)), type := 4, pos := "law.go:66", after := #[{ on := 23, ground := Ground.data }, { on := 30, ground := Ground.data }, { on := 20, ground := Ground.guard }], guard := some (20, false) }) (v := ?_) rfl (by kernel_rfl) (by kernel_rfl) (by kernel_rfl) (fun _ _ _ h => h) (Or.inl ⟨by rfl, ?_⟩) hHeld ?_
        rotate_left
        · intro wz hSw; (try dsimp only at hSw); go_simp; try (with_reducible rfl)
        try simp only [Act.put, List.setIfInBounds_toArray, List.set_cons_zero, List.set_cons_succ]
        refine wpAnyH_take (i := 32) (oi := { dst := some 136, op := Op.pick (Operand.tmp 124) (Operand.const (Value.bool true)) (Operand.tmp 135), type := 4, pos := "law.go:66", after := #[{ on := 20, ground := Ground.data }, { on := 31, ground := Ground.data }], guard := none }) (v := ?_) rfl (by kernel_rfl) (by kernel_rfl) (by kernel_rfl) (fun _ _ _ h => h) (Or.inl ⟨by rfl, ?_⟩) hHeld ?_
        rotate_left
        · intro wz hSw; (try dsimp only at hSw); go_simp; try (with_reducible rfl)
        try simp only [Act.put, List.setIfInBounds_toArray, List.set_cons_zero, List.set_cons_succ]
        refine wpAnyH_take (i := 33) (oi := { dst := some 137, op := Op.move (Operand.tmp 136), type := 4, pos := "law.go:66", after := #[{ on := 32, ground := Ground.data }, { on := 26, ground := Ground.chain }], guard := none }) (v := ?_) rfl (by kernel_rfl) (by kernel_rfl) (by kernel_rfl) (fun _ _ _ h => h) (Or.inl ⟨by rfl, ?_⟩) hHeld ?_
        rotate_left
        · intro wz hSw; (try dsimp only at hSw); go_simp; try (with_reducible rfl)
        try simp only [Act.put, List.setIfInBounds_toArray, List.set_cons_zero, List.set_cons_succ]
        refine wpAnyH_take (i := 34) (oi := { dst := some 138, op := Op.move (Operand.tmp 15), type := 3, pos := "law.go:66", after := #[{ on := 33, ground := Ground.guard }], guard := some (33, false) }) (v := ?_) rfl (by kernel_rfl) (by kernel_rfl) (by kernel_rfl) (fun _ _ _ h => h) (Or.inl ⟨by rfl, ?_⟩) hHeld ?_
        rotate_left
        · intro wz hSw; (try dsimp only at hSw); go_simp; try (with_reducible rfl)
        try simp only [Act.put, List.setIfInBounds_toArray, List.set_cons_zero, List.set_cons_succ]
        refine wpAnyH_take (i := 35) (oi := { dst := some 139, op := Op.move (Operand.tmp 4), type := 26, pos := "law.go:66", after := #[{ on := 33, ground := Ground.guard }], guard := some (33, false) }) (v := ?_) rfl (by kernel_rfl) (by kernel_rfl) (by kernel_rfl) (fun _ _ _ h => h) (Or.inl ⟨by rfl, ?_⟩) hHeld ?_
        rotate_left
        · intro wz hSw; (try dsimp only at hSw); go_simp; try (with_reducible rfl)
        try simp only [Act.put, List.setIfInBounds_toArray, List.set_cons_zero, List.set_cons_succ]
        refine wpAnyH_take (i := 36) (oi := { dst := some 140, op := Op.nilCheck (Operand.tmp 139), type := 0, pos := "law.go:66", after := #[{ on := 35, ground := Ground.data }, { on := 33, ground := Ground.guard }], guard := some (33, false) }) (v := ?_) rfl (by kernel_rfl) (by kernel_rfl) (by kernel_rfl) (fun _ _ _ h => h) (Or.inl ⟨by rfl, ?_⟩) hHeld ?_
        rotate_left
        · intro wz hSw; (try dsimp only at hSw); go_simp; try (with_reducible rfl)
        try simp only [Act.put, List.setIfInBounds_toArray, List.set_cons_zero, List.set_cons_succ]
        refine wpAnyH_take (i := 37) (oi := { dst := some 141, op := Op.fieldAddr 29 (Operand.tmp 140) 1, type := 0, pos := "law.go:66", after := #[{ on := 36, ground := Ground.data }, { on := 33, ground := Ground.guard }], guard := some (33, false) }) (v := ?_) rfl (by kernel_rfl) (by kernel_rfl) (by kernel_rfl) (fun _ _ _ h => h) (Or.inl ⟨by rfl, ?_⟩) hHeld ?_
        rotate_left
        · intro wz hSw; (try dsimp only at hSw); go_simp; try (with_reducible rfl)
        try simp only [Act.put, List.setIfInBounds_toArray, List.set_cons_zero, List.set_cons_succ]
        refine wpAnyH_take (i := 38) (oi := { dst := some 142, op := Op.load 3 (Operand.tmp 141), type := 3, pos := "law.go:66", after := #[{ on := 37, ground := Ground.data }, { on := 33, ground := Ground.guard }], guard := some (33, false) }) (v := ?_) rfl (by kernel_rfl) (by kernel_rfl) (by kernel_rfl) (fun _ _ _ h => h) (Or.inl ⟨by rfl, ?_⟩) hHeld ?_
        rotate_left
        · intro wz hSw; (try dsimp only at hSw); go_simp; try (with_reducible rfl)
        try simp only [Act.put, List.setIfInBounds_toArray, List.set_cons_zero, List.set_cons_succ]
        refine wpAnyH_take (i := 39) (oi := { dst := some 143, op := Op.binOp BinOp.neq 3 (Operand.tmp 138) (Operand.tmp 142) 3, type := 4, pos := "law.go:66", after := #[{ on := 34, ground := Ground.data }, { on := 38, ground := Ground.data }, { on := 33, ground := Ground.guard }], guard := some (33, false) }) (v := ?_) rfl (by kernel_rfl) (by kernel_rfl) (by kernel_rfl) (fun _ _ _ h => h) (Or.inl ⟨by rfl, ?_⟩) hHeld ?_
        rotate_left
        · intro wz hSw; (try dsimp only at hSw); go_simp; try (with_reducible rfl)
        try simp only [Act.put, List.setIfInBounds_toArray, List.set_cons_zero, List.set_cons_succ]
        refine wpAnyH_take (i := 40) (oi := { dst := some 144, op := Op.pick (Operand.tmp 137) (Operand.const (Value.bool true)) (Operand.tmp 143), type := 4, pos := "law.go:66", after := #[{ on := 33, ground := Ground.data }, { on := 39, ground := Ground.data }], guard := none }) (v := ?_) rfl (by kernel_rfl) (by kernel_rfl) (by kernel_rfl) (fun _ _ _ h => h) (Or.inl ⟨by rfl, ?_⟩) hHeld ?_
        rotate_left
        · intro wz hSw; (try dsimp only at hSw); go_simp; try (with_reducible rfl)
        try simp only [Act.put, List.setIfInBounds_toArray, List.set_cons_zero, List.set_cons_succ]
        refine wpAnyH_take (i := 41) (oi := { dst := some 145, op := Op.move (Operand.tmp 144), type := 4, pos := "law.go:66", after := #[{ on := 40, ground := Ground.data }, { on := 33, ground := Ground.chain }], guard := none }) (v := ?_) rfl (by kernel_rfl) (by kernel_rfl) (by kernel_rfl) (fun _ _ _ h => h) (Or.inl ⟨by rfl, ?_⟩) hHeld ?_
        rotate_left
        · intro wz hSw; (try dsimp only at hSw); go_simp; try (with_reducible rfl)
        try simp only [Act.put, List.setIfInBounds_toArray, List.set_cons_zero, List.set_cons_succ]
        refine wpAnyH_take (i := 42) (oi := { dst := some 146, op := Op.move (Operand.tmp 16), type := 4, pos := "law.go:66", after := #[{ on := 41, ground := Ground.guard }], guard := some (41, false) }) (v := ?_) rfl (by kernel_rfl) (by kernel_rfl) (by kernel_rfl) (fun _ _ _ h => h) (Or.inl ⟨by rfl, ?_⟩) hHeld ?_
        rotate_left
        · intro wz hSw; (try dsimp only at hSw); go_simp; try (with_reducible rfl)
        try simp only [Act.put, List.setIfInBounds_toArray, List.set_cons_zero, List.set_cons_succ]
        refine wpAnyH_take (i := 43) (oi := { dst := some 147, op := Op.move (Operand.tmp 4), type := 26, pos := "law.go:66", after := #[{ on := 41, ground := Ground.guard }], guard := some (41, false) }) (v := ?_) rfl (by kernel_rfl) (by kernel_rfl) (by kernel_rfl) (fun _ _ _ h => h) (Or.inl ⟨by rfl, ?_⟩) hHeld ?_
        rotate_left
        · intro wz hSw; (try dsimp only at hSw); go_simp; try (with_reducible rfl)
        try simp only [Act.put, List.setIfInBounds_toArray, List.set_cons_zero, List.set_cons_succ]
        refine wpAnyH_take (i := 44) (oi := { dst := some 148, op := Op.nilCheck (Operand.tmp 147), type := 0, pos := "law.go:66", after := #[{ on := 43, ground := Ground.data }, { on := 41, ground := Ground.guard }], guard := some (41, false) }) (v := ?_) rfl (by kernel_rfl) (by kernel_rfl) (by kernel_rfl) (fun _ _ _ h => h) (Or.inl ⟨by rfl, ?_⟩) hHeld ?_
        rotate_left
        · intro wz hSw; (try dsimp only at hSw); go_simp; try (with_reducible rfl)
        try simp only [Act.put, List.setIfInBounds_toArray, List.set_cons_zero, List.set_cons_succ]
        refine wpAnyH_take (i := 45) (oi := { dst := some 149, op := Op.fieldAddr 29 (Operand.tmp 148) 2, type := 0, pos := "law.go:66", after := #[{ on := 44, ground := Ground.data }, { on := 41, ground := Ground.guard }], guard := some (41, false) }) (v := ?_) rfl (by kernel_rfl) (by kernel_rfl) (by kernel_rfl) (fun _ _ _ h => h) (Or.inl ⟨by rfl, ?_⟩) hHeld ?_
        rotate_left
        · intro wz hSw; (try dsimp only at hSw); go_simp; try (with_reducible rfl)
        try simp only [Act.put, List.setIfInBounds_toArray, List.set_cons_zero, List.set_cons_succ]
        refine wpAnyH_take (i := 46) (oi := { dst := some 150, op := Op.load 4 (Operand.tmp 149), type := 4, pos := "law.go:66", after := #[{ on := 45, ground := Ground.data }, { on := 41, ground := Ground.guard }], guard := some (41, false) }) (v := ?_) rfl (by kernel_rfl) (by kernel_rfl) (by kernel_rfl) (fun _ _ _ h => h) (Or.inl ⟨by rfl, ?_⟩) hHeld ?_
        rotate_left
        · intro wz hSw; (try dsimp only at hSw); go_simp; try (with_reducible rfl)
        try simp only [Act.put, List.setIfInBounds_toArray, List.set_cons_zero, List.set_cons_succ]
        refine wpAnyH_take (i := 47) (oi := { dst := some 151, op := Op.binOp BinOp.eql 4 (Operand.tmp 146) (Operand.tmp 150) 4, type := 4, pos := "law.go:66", after := #[{ on := 42, ground := Ground.data }, { on := 46, ground := Ground.data }, { on := 41, ground := Ground.guard }], guard := some (41, false) }) (v := ?_) rfl (by kernel_rfl) (by kernel_rfl) (by kernel_rfl) (fun _ _ _ h => h) (Or.inl ⟨by rfl, ?_⟩) hHeld ?_
        rotate_left
        · intro wz hSw; (try dsimp only at hSw); go_simp; try (with_reducible rfl)
        try simp only [Act.put, List.setIfInBounds_toArray, List.set_cons_zero, List.set_cons_succ]
        refine wpAnyH_take (i := 48) (oi := { dst := some 152, op := Op.pick (Operand.tmp 145) (Operand.const (Value.bool true)) (Operand.tmp 151), type := 4, pos := "law.go:66", after := #[{ on := 41, ground := Ground.data }, { on := 47, ground := Ground.data }], guard := none }) (v := ?_) rfl (by kernel_rfl) (by kernel_rfl) (by kernel_rfl) (fun _ _ _ h => h) (Or.inl ⟨by rfl, ?_⟩) hHeld ?_
        rotate_left
        · intro wz hSw; (try dsimp only at hSw); go_simp; try (with_reducible rfl)
        try simp only [Act.put, List.setIfInBounds_toArray, List.set_cons_zero, List.set_cons_succ]
        refine wpAnyH_take (i := 49) (oi := { dst := some 153, op := Op.move (Operand.tmp 152), type := 4, pos := "law.go:66", after := #[{ on := 48, ground := Ground.data }, { on := 41, ground := Ground.chain }], guard := none }) (v := ?_) rfl (by kernel_rfl) (by kernel_rfl) (by kernel_rfl) (fun _ _ _ h => h) (Or.inl ⟨by rfl, ?_⟩) hHeld ?_
        rotate_left
        · intro wz hSw; (try dsimp only at hSw); go_simp; try (with_reducible rfl)
        try simp only [Act.put, List.setIfInBounds_toArray, List.set_cons_zero, List.set_cons_succ]
        refine wpAnyH_take (i := 50) (oi := { dst := some 154, op := Op.move (Operand.tmp 3), type := 24, pos := "law.go:66", after := #[{ on := 49, ground := Ground.guard }], guard := some (49, false) }) (v := ?_) rfl (by kernel_rfl) (by kernel_rfl) (by kernel_rfl) (fun _ _ _ h => h) (Or.inl ⟨by rfl, ?_⟩) hHeld ?_
        rotate_left
        · intro wz hSw; (try dsimp only at hSw); go_simp; try (with_reducible rfl)
        try simp only [Act.put, List.setIfInBounds_toArray, List.set_cons_zero, List.set_cons_succ]
        refine wpAnyH_take (i := 52) (oi := { dst := some 156, op := Op.move (Operand.tmp 4), type := 26, pos := "law.go:66", after := #[{ on := 49, ground := Ground.guard }], guard := some (49, false) }) (v := ?_) rfl (by kernel_rfl) (by kernel_rfl) (by kernel_rfl) (fun _ _ _ h => h) (Or.inl ⟨by rfl, ?_⟩) hHeld ?_
        rotate_left
        · intro wz hSw; (try dsimp only at hSw); go_simp; try (with_reducible rfl)
        try simp only [Act.put, List.setIfInBounds_toArray, List.set_cons_zero, List.set_cons_succ]
        refine wpAnyH_ready (rs := [51]) (by kernel_rfl) (by simp) ?_
        refine AllReadyH.cons (o := { dst := some 155, op := Op.call { callee := Callee.value (Operand.func 23), args := #[Operand.tmp 154], argTypes := #[24] }, type := 27, pos := "law.go:66", after := #[{ on := 50, ground := Ground.data }, { on := 49, ground := Ground.chain }, { on := 49, ground := Ground.guard }], guard := some (49, false) }) rfl (fun K hK => ?_) AllReadyH.nil
        go_simp
        refine (AC.out _ (Below.refl _ _).drew).mono ?_
        rintro r' w6 ⟨B1, d1, l1, rfl, hp1, ho1, s6⟩
        have P1 := Lib.hid (And.intro hp1 ho1)
        have S6 := Lib.hid s6
        clear s6 hp1 ho1
        go_wp2_with fail
        refine hK.out _ _ ?_ (fun hHeld => ?_)
        · exact CE.out w6 (Below.trans (Below.refl _ _).drew S6.out.below)
        clear hK K
        try simp only [Act.put, List.setIfInBounds_toArray, List.set_cons_zero, List.set_cons_succ]
        refine wpAnyH_ready (rs := [53]) (by kernel_rfl) (by simp) ?_
        refine AllReadyH.cons (o := { dst := some 157, op := Op.call { callee := Callee.value (Operand.func 24), args := #[Operand.tmp 156], argTypes := #[26] }, type := 27, pos := "law.go:66", after := #[{ on := 52, ground := Ground.data }, { on := 51, ground := Ground.chain }, { on := 49, ground := Ground.guard }], guard := some (49, false) }) rfl (fun K hK => ?_) AllReadyH.nil
        go_simp
        refine (BC.out _ (Below.trans (Below.refl _ _).drew S6.out.below)).mono ?_
        rintro r' w7 ⟨B2, d2, l2, rfl, hp2, ho2, s7⟩
        have P2 := Lib.hid (And.intro hp2 ho2)
        have S7 := Lib.hid (S6.out.join s7)
        clear s7 hp2 ho2
        go_wp2_with fail
        refine hK.out _ _ ?_ (fun hHeld => ?_)
        · exact CE.out w7 (Below.trans (Below.refl _ _).drew S7.out.below)
        clear hK K
        try simp only [Act.put, List.setIfInBounds_toArray, List.set_cons_zero, List.set_cons_succ]
        refine wpAnyH_ready (rs := [54]) (by kernel_rfl) (by simp) ?_
        refine AllReadyH.cons (o := { dst := some 158, op := Op.call { callee := Callee.value (Operand.func 22), args := #[Operand.tmp 155, Operand.tmp 157], argTypes := #[27, 27] }, type := 4, pos := "law.go:66", after := #[{ on := 51, ground := Ground.data }, { on := 53, ground := Ground.data }, { on := 53, ground := Ground.chain }, { on := 49, ground := Ground.guard }], guard := some (49, false) }) rfl (fun K hK => ?_) AllReadyH.nil
        go_simp
        refine (SC.out _ _ _ _ _ _ _ _ P1.out P2.out S7.out).mono ?_
        rintro r' w8 ⟨rfl, hb8⟩
        have Q8 := Lib.hid (below_then S7.out.below hb8)
        clear hb8
        go_wp2_with fail
        refine hK.out _ _ ?_ (fun hHeld => ?_)
        · exact CE.out w8 (Below.trans (Below.refl _ _).drew Q8.out)
        clear hK K
        try simp only [Act.put, List.setIfInBounds_toArray, List.set_cons_zero, List.set_cons_succ]
        refine wpAnyH_take (i := 55) (oi := { dst := some 159, op := Op.unOp UnOp.not 4 (Operand.tmp 158), type := 4, pos := "law.go:66", after := #[{ on := 54, ground := Ground.data }, { on := 49, ground := Ground.guard }], guard := some (49, false) }) (v := ?_) rfl (by kernel_rfl) (by kernel_rfl) (by kernel_rfl) (fun _ _ _ h => h) (Or.inl ⟨by rfl, ?_⟩) hHeld ?_
        rotate_left
        · intro wz hSw; (try dsimp only at hSw); go_simp; try (with_reducible rfl)
        try simp only [Act.put, List.setIfInBounds_toArray, List.set_cons_zero, List.set_cons_succ]
        refine wpAnyH_take (i := 56) (oi := { dst := some 160, op := Op.pick (Operand.tmp 153) (Operand.const (Value.bool true)) (Operand.tmp 159), type := 4, pos := "law.go:66", after := #[{ on := 49, ground := Ground.data }, { on := 55, ground := Ground.data }], guard := none }) (v := ?_) rfl (by kernel_rfl) (by kernel_rfl) (by kernel_rfl) (fun _ _ _ h => h) (Or.inl ⟨by rfl, ?_⟩) hHeld ?_
        rotate_left
        · intro wz hSw; (try dsimp only at hSw); go_simp; try (with_reducible rfl)
        try simp only [Act.put, List.setIfInBounds_toArray, List.set_cons_zero, List.set_cons_succ]
        refine wpAnyH_done (by kernel_rfl) ?_ _
        all_goals
          go_wp2_with fail
          go_roundw
          case rel => exact ⟨k + 1, s', by omega, by omega, by go_num, OK.out, by first | (rw [← HR.out]; exact S12.out.stay (Below.trans (Below.refl _ _).drew Q8.out)) | exact S12.out.stay (Below.trans (Below.refl _ _).drew Q8.out)⟩
          case measure => simp [intOf]; omega
      · have hil : i < m := by rw [HMM.out]; exact (List.getElem?_eq_some_iff.1 hi).1
        obtain ⟨b, o, rfl, -, -⟩ := want_at (ST.out.lis 1 rfl) hi
        have CE := Lib.hid (show ∀ W, Below w11.heap.size w11 W → W.cell? ⟨r, 0, none⟩ = some (.slice (some ⟨b, o, none⟩) m c1) ∧ W.cell? ⟨r, 1, none⟩ = some (.int .i64 hd) ∧ W.cell? ⟨r, 2, none⟩ = some (.bool (!ud)) ∧ W.cell? ⟨xb, 0, none⟩ = some (.int .i64 x1.id) ∧ W.cell? ⟨xb, 1, none⟩ = some (.int .u64 x1.dead) ∧ W.cell? ⟨xb, 2, none⟩ = some (.int .i64 x1.track) ∧ W.cell? ⟨b, o + i * 3, none⟩ = some (.int .i64 x1.id) ∧ W.cell? ⟨b, o + i * 3 + 1, none⟩ = some (.int .u64 x1.dead) ∧ W.cell? ⟨b, o + i * 3 + 2, none⟩ = some (.int .i64 x1.track) from fun W hb => by
          obtain ⟨g0, g1, g2, h0, h1, h2⟩ := CE0.out W hb
          obtain ⟨b', o', he, -, m0, m1, m2⟩ := want_at ((ST.out.stay hb).lis 1 rfl) hi
          injection he with he
          injection he with e1 e2
          subst e1 e2
          exact ⟨g0, g1, g2, h0, h1, h2, m0, m1, m2⟩)
        have w1 : decide ((0 : Int) ≤ (i : Int)) = true := decide_eq_true (by omega)
        have w2 : decide ((i : Int) < 0) = false := decide_eq_false (by omega)
        have w3 : (0 : Int) ≤ (i : Int) := by omega
        have w4 : (i : Int) < (m : Int) := by omega
        have w5 : i < m := hil
        obtain ⟨g0, g1, g2, h0, h1, h2, m0, m1, m2⟩ := CE.out _ (Below.refl _ _)
        clear HZ HN HN' CE0 hi hbb ST
        go_wp2_with fail
        refine wp_region_held_drew (S := (fun W => W.cell? ⟨r, 0, none⟩ = some (.slice (some ⟨b, o, none⟩) m c1) ∧ W.cell? ⟨r, 1, none⟩ = some (.int .i64 hd) ∧ W.cell? ⟨r, 2, none⟩ = some (.bool (!ud)) ∧ W.cell? ⟨xb, 0, none⟩ = some (.int .i64 x1.id) ∧ W.cell? ⟨xb, 1, none⟩ = some (.int .u64 x1.dead) ∧ W.cell? ⟨xb, 2, none⟩ = some (.int .i64 x1.track) ∧ W.cell? ⟨b, o + i * 3, none⟩ = some (.int .i64 x1.id) ∧ W.cell? ⟨b, o + i * 3 + 1, none⟩ = some (.int .u64 x1.dead) ∧ W.cell? ⟨b, o + i * 3 + 2, none⟩ = some (.int .i64 x1.track))) (by kernel_rfl) ?_ (fun hHeld => ?_)
        · (try dsimp only); go_keep
        refine wpAnyH_take (i := 0) (oi := { dst := some 104, op := Op.move (Operand.tmp 12), type := 35, pos := "law.go:66", after := #[], guard := none }) (v := ?_) rfl (by kernel_rfl) (by kernel_rfl) (by kernel_rfl) (fun _ _ _ h => h) (Or.inl ⟨by rfl, ?_⟩) hHeld ?_
        rotate_left
        · intro wz hSw; (try dsimp only at hSw); go_simp; try (with_reducible rfl)
        try simp only [Act.put, List.setIfInBounds_toArray, List.set_cons_zero, List.set_cons_succ]
        refine wpAnyH_take (i := 1) (oi := { dst := some 105, op := Op.binOp BinOp.eql 35 (Operand.tmp 104) (Operand.const (Value.int IntKind.i64 0)) 35, type := 4, pos := "law.go:66", after := #[{ on := 0, ground := Ground.data }], guard := none }) (v := ?_) rfl (by kernel_rfl) (by kernel_rfl) (by kernel_rfl) (fun _ _ _ h => h) (Or.inl ⟨by rfl, ?_⟩) hHeld ?_
        rotate_left
        · intro wz hSw; (try dsimp only at hSw); go_simp; try (with_reducible rfl)
        try simp only [Act.put, List.setIfInBounds_toArray, List.set_cons_zero, List.set_cons_succ]
        refine wpAnyH_take (i := 2) (oi := { dst := some 106, op := Op.move (Operand.tmp 13), type := 3, pos := "law.go:66", after := #[], guard := none }) (v := ?_) rfl (by kernel_rfl) (by kernel_rfl) (by kernel_rfl) (fun _ _ _ h => h) (Or.inl ⟨by rfl, ?_⟩) hHeld ?_
        rotate_left
        · intro wz hSw; (try dsimp only at hSw); go_simp; try (with_reducible rfl)
        try simp only [Act.put, List.setIfInBounds_toArray, List.set_cons_zero, List.set_cons_succ]
        refine wpAnyH_take (i := 3) (oi := { dst := some 107, op := Op.binOp BinOp.geq 3 (Operand.tmp 106) (Operand.const (Value.int IntKind.i64 0)) 3, type := 4, pos := "law.go:66", after := #[{ on := 2, ground := Ground.data }], guard := none }) (v := ?_) rfl (by kernel_rfl) (by kernel_rfl) (by kernel_rfl) (fun _ _ _ h => h) (Or.inl ⟨by rfl, ?_⟩) hHeld ?_
        rotate_left
        · intro wz hSw; (try dsimp only at hSw); go_simp; try (with_reducible rfl)
        try simp only [Act.put, List.setIfInBounds_toArray, List.set_cons_zero, List.set_cons_succ]
        refine wpAnyH_take (i := 4) (oi := { dst := some 108, op := Op.binOp BinOp.neq 4 (Operand.tmp 105) (Operand.tmp 107) 4, type := 4, pos := "law.go:66", after := #[{ on := 1, ground := Ground.data }, { on := 3, ground := Ground.data }], guard := none }) (v := ?_) rfl (by kernel_rfl) (by kernel_rfl) (by kernel_rfl) (fun _ _ _ h => h) (Or.inl ⟨by rfl, ?_⟩) hHeld ?_
        rotate_left
        · intro wz hSw; (try dsimp only at hSw); go_simp; try (with_reducible rfl)
        try simp only [Act.put, List.setIfInBounds_toArray, List.set_cons_zero, List.set_cons_succ]
        refine wpAnyH_take (i := 5) (oi := { dst := some 109, op := Op.move (Operand.tmp 108), type := 4, pos := "law.go:66", after := #[{ on := 4, ground := Ground.data }], guard := none }) (v := ?_) rfl (by kernel_rfl) (by kernel_rfl) (by kernel_rfl) (fun _ _ _ h => h) (Or.inl ⟨by rfl, ?_⟩) hHeld ?_
        rotate_left
        · intro wz hSw; (try dsimp only at hSw); go_simp; try (with_reducible rfl)
        try simp only [Act.put, List.setIfInBounds_toArray, List.set_cons_zero, List.set_cons_succ]
        refine wpAnyH_take (i := 6) (oi := { dst := some 110, op := Op.move (Operand.tmp 13), type := 3, pos := "law.go:66", after := #[{ on := 5, ground := Ground.guard }], guard := some (5, false) }) (v := ?_) rfl (by kernel_rfl) (by kernel_rfl) (by kernel_rfl) (fun _ _ _ h => h) (Or.inl ⟨by rfl, ?_⟩) hHeld ?_
        rotate_left
        · intro wz hSw; (try dsimp only at hSw); go_simp; try (with_reducible rfl)
        try simp only [Act.put, List.setIfInBounds_toArray, List.set_cons_zero, List.set_cons_succ]
        refine wpAnyH_take (i := 7) (oi := { dst := some 111, op := Op.binOp BinOp.geq 3 (Operand.tmp 110) (Operand.const (Value.int IntKind.i64 0)) 3, type := 4, pos := "law.go:66", after := #[{ on := 6, ground := Ground.data }, { on := 5, ground := Ground.guard }], guard := some (5, false) }) (v := ?_) rfl (by kernel_rfl) (by kernel_rfl) (by kernel_rfl) (fun _ _ _ h => h) (Or.inl ⟨by rfl, ?_⟩) hHeld ?_
        rotate_left
        · intro wz hSw; (try dsimp only at hSw); go_simp; try (with_reducible rfl)
        try simp only [Act.put, List.setIfInBounds_toArray, List.set_cons_zero, List.set_cons_succ]
        refine wpAnyH_take (i := 8) (oi := { dst := some 112, op := Op.move (Operand.tmp 111), type := 4, pos := "law.go:66", after := #[{ on := 7, ground := Ground.data }, { on := 5, ground := Ground.chain }, { on := 5, ground := Ground.guard }], guard := some (5, false) }) (v := ?_) rfl (by kernel_rfl) (by kernel_rfl) (by kernel_rfl) (fun _ _ _ h => h) (Or.inl ⟨by rfl, ?_⟩) hHeld ?_
        rotate_left
        · intro wz hSw; (try dsimp only at hSw); go_simp; try (with_reducible rfl)
        try simp only [Act.put, List.setIfInBounds_toArray, List.set_cons_zero, List.set_cons_succ]
        refine wpAnyH_take (i := 9) (oi := { dst := some 113, op := Op.load 32 (Operand.tmp 11), type := 32, pos := "law.go:66", after := #[{ on := 8, ground := Ground.guard }], guard := some (8, true) }) (v := ?_) rfl (by kernel_rfl) (by kernel_rfl) (by kernel_rfl) (fun _ _ _ h => h) (Or.inl ⟨by rfl, ?_⟩) hHeld ?_
        rotate_left
        · intro wz hSw; (try dsimp only at hSw); go_simp; try (with_reducible rfl)
        try simp only [Act.put, List.setIfInBounds_toArray, List.set_cons_zero, List.set_cons_succ]
        refine wpAnyH_take (i := 10) (oi := { dst := some 114, op := Op.move (Operand.tmp 4), type := 26, pos := "law.go:66", after := #[{ on := 8, ground := Ground.guard }], guard := some (8, true) }) (v := ?_) rfl (by kernel_rfl) (by kernel_rfl) (by kernel_rfl) (fun _ _ _ h => h) (Or.inl ⟨by rfl, ?_⟩) hHeld ?_
        rotate_left
        · intro wz hSw; (try dsimp only at hSw); go_simp; try (with_reducible rfl)
        try simp only [Act.put, List.setIfInBounds_toArray, List.set_cons_zero, List.set_cons_succ]
        refine wpAnyH_take (i := 11) (oi := { dst := some 115, op := Op.nilCheck (Operand.tmp 114), type := 0, pos := "law.go:66", after := #[{ on := 10, ground := Ground.data }, { on := 8, ground := Ground.guard }], guard := some (8, true) }) (v := ?_) rfl (by kernel_rfl) (by kernel_rfl) (by kernel_rfl) (fun _ _ _ h => h) (Or.inl ⟨by rfl, ?_⟩) hHeld ?_
        rotate_left
        · intro wz hSw; (try dsimp only at hSw); go_simp; try (with_reducible rfl)
        try simp only [Act.put, List.setIfInBounds_toArray, List.set_cons_zero, List.set_cons_succ]
        refine wpAnyH_take (i := 12) (oi := { dst := some 116, op := Op.fieldAddr 29 (Operand.tmp 115) 0, type := 0, pos := "law.go:66", after := #[{ on := 11, ground := Ground.data }, { on := 8, ground := Ground.guard }], guard := some (8, true) }) (v := ?_) rfl (by kernel_rfl) (by kernel_rfl) (by kernel_rfl) (fun _ _ _ h => h) (Or.inl ⟨by rfl, ?_⟩) hHeld ?_
        rotate_left
        · intro wz hSw; (try dsimp only at hSw); go_simp; try (with_reducible rfl)
        try simp only [Act.put, List.setIfInBounds_toArray, List.set_cons_zero, List.set_cons_succ]
        refine wpAnyH_take (i := 13) (oi := { dst := some 117, op := Op.load 27 (Operand.tmp 116), type := 27, pos := "law.go:66", after := #[{ on := 12, ground := Ground.data }, { on := 8, ground := Ground.guard }], guard := some (8, true) }) (v := ?_) rfl (by kernel_rfl) (by kernel_rfl) (by kernel_rfl) (fun _ _ _ h => h) (Or.inl ⟨by rfl, ?_⟩) hHeld ?_
        rotate_left
        · intro wz hSw; (try dsimp only at hSw); go_simp; try (with_reducible rfl)
        try simp only [Act.put, List.setIfInBounds_toArray, List.set_cons_zero, List.set_cons_succ]
        refine wpAnyH_take (i := 14) (oi := { dst := some 118, op := Op.move (Operand.tmp 13), type := 3, pos := "law.go:66", after := #[{ on := 8, ground := Ground.guard }], guard := some (8, true) }) (v := ?_) rfl (by kernel_rfl) (by kernel_rfl) (by kernel_rfl) (fun _ _ _ h => h) (Or.inl ⟨by rfl, ?_⟩) hHeld ?_
        rotate_left
        · intro wz hSw; (try dsimp only at hSw); go_simp; try (with_reducible rfl)
        try simp only [Act.put, List.setIfInBounds_toArray, List.set_cons_zero, List.set_cons_succ]
        refine wpAnyH_take (i := 15) (oi := { dst := some 119, op := Op.indexAddr 27 (Operand.tmp 117) (Operand.tmp 118), type := 0, pos := "law.go:66", after := #[{ on := 13, ground := Ground.data }, { on := 14, ground := Ground.data }, { on := 8, ground := Ground.guard }], guard := some (8, true) }) (v := ?_) rfl (by kernel_rfl) (by kernel_rfl) (by kernel_rfl) (fun _ _ _ h => h) (Or.inl ⟨by rfl, ?_⟩) hHeld ?_
        rotate_left
        · intro wz hSw; (try dsimp only at hSw); go_simp; try (with_reducible rfl)
        try simp only [Act.put, List.setIfInBounds_toArray, List.set_cons_zero, List.set_cons_succ]
        refine wpAnyH_take (i := 16) (oi := { dst := some 120, op := Op.load 32 (Operand.tmp 119), type := 32, pos := "law.go:66", after := #[{ on := 15, ground := Ground.data }, { on := 8, ground := Ground.guard }], guard := some (8, true) }) (v := ?_) rfl (by kernel_rfl) (by kernel_rfl) (by kernel_rfl) (fun _ _ _ h => h) (Or.inl ⟨by rfl, ?_⟩) hHeld ?_
        rotate_left
        · intro wz hSw; (try dsimp only at hSw); go_simp; try (with_reducible rfl)
        try simp only [Act.put, List.setIfInBounds_toArray, List.set_cons_zero, List.set_cons_succ]
        refine wpAnyH_take (i := 17) (oi := { dst := some 121, op := Op.binOp BinOp.neq 32 (Operand.tmp 113) (Operand.tmp 120) 32, type := 4, pos := "law.go:66", after := #[{ on := 9, ground := Ground.data }, { on := 16, ground := Ground.data }, { on := 8, ground := Ground.guard }], guard := some (8, true) }) (v := ?_) rfl (by kernel_rfl) (by kernel_rfl) (by kernel_rfl) (fun _ _ _ h => h) (Or.inl ⟨by rfl, ?_⟩) hHeld ?_
        rotate_left
        · intro wz hSw; (try dsimp only at hSw); go_simp; try (with_reducible rfl)
        try simp only [Act.put, List.setIfInBounds_toArray, List.set_cons_zero, List.set_cons_succ]
        refine wpAnyH_take (i := 18) (oi := { dst := some 122, op := Op.pick (Operand.tmp 112) (Operand.tmp 121) (Operand.const (Value.bool false)), type := 4, pos := "law.go:66", after := #[{ on := 8, ground := Ground.data }, { on := 17, ground := Ground.data }, { on := 5, ground := Ground.guard }], guard := some (5, false) }) (v := ?_) rfl (by kernel_rfl) (by kernel_rfl) (by kernel_rfl) (fun _ _ _ h => h) (Or.inl ⟨by rfl, ?_⟩) hHeld ?_
        rotate_left
        · intro wz hSw; (try dsimp only at hSw); go_simp; try (with_reducible rfl)
        try simp only [Act.put, List.setIfInBounds_toArray, List.set_cons_zero, List.set_cons_succ]
        refine wpAnyH_take (i := 19) (oi := { dst := some 123, op := Op.pick (Operand.tmp 109) (Operand.const (Value.bool true)) (Operand.tmp 122), type := 4, pos := "law.go:66", after := #[{ on := 5, ground := Ground.data }, { on := 18, ground := Ground.data }], guard := none }) (v := ?_) rfl (by kernel_rfl) (by kernel_rfl) (by kernel_rfl) (fun _ _ _ h => h) (Or.inl ⟨by rfl, ?_⟩) hHeld ?_
        rotate_left
        · intro wz hSw; (try dsimp only at hSw); go_simp; try (with_reducible rfl)
        try simp only [Act.put, List.setIfInBounds_toArray, List.set_cons_zero, List.set_cons_succ]
        refine wpAnyH_take (i := 20) (oi := { dst := some 124, op := Op.move (Operand.tmp 123), type := 4, pos := "law.go:66", after := #[{ on := 19, ground := Ground.data }, { on := 8, ground := Ground.chain }], guard := none }) (v := ?_) rfl (by kernel_rfl) (by kernel_rfl) (by kernel_rfl) (fun _ _ _ h => h) (Or.inl ⟨by rfl, ?_⟩) hHeld ?_
        rotate_left
        · intro wz hSw; (try dsimp only at hSw); go_simp; try (with_reducible rfl)
        try simp only [Act.put, List.setIfInBounds_toArray, List.set_cons_zero, List.set_cons_succ]
        refine wpAnyH_take (i := 21) (oi := { dst := some 125, op := Op.move (Operand.tmp 13), type := 3, pos := "law.go:66", after := #[{ on := 20, ground := Ground.guard }], guard := some (20, false) }) (v := ?_) rfl (by kernel_rfl) (by kernel_rfl) (by kernel_rfl) (fun _ _ _ h => h) (Or.inl ⟨by rfl, ?_⟩) hHeld ?_
        rotate_left
        · intro wz hSw; (try dsimp only at hSw); go_simp; try (with_reducible rfl)
        try simp only [Act.put, List.setIfInBounds_toArray, List.set_cons_zero, List.set_cons_succ]
        refine wpAnyH_take (i := 22) (oi := { dst := some 126, op := Op.binOp BinOp.lss 3 (Operand.tmp 125) (Operand.const (Value.int IntKind.i64 0)) 3, type := 4, pos := "law.go:66", after := #[{ on := 21, ground := Ground.data }, { on := 20, ground := Ground.guard }], guard := some (20, false) }) (v := ?_) rfl (by kernel_rfl) (by kernel_rfl) (by kernel_rfl) (fun _ _ _ h => h) (Or.inl ⟨by rfl, ?_⟩) hHeld ?_
        rotate_left
        · intro wz hSw; (try dsimp only at hSw); go_simp; try (with_reducible rfl)
        try simp only [Act.put, List.setIfInBounds_toArray, List.set_cons_zero, List.set_cons_succ]
        refine wpAnyH_take (i := 23) (oi := { dst := some 127, op := Op.move (Operand.tmp 126), type := 4, pos := "law.go:66", after := #[{ on := 22, ground := Ground.data }, { on := 20, ground := Ground.chain }, { on := 20, ground := Ground.guard }], guard := some (20, false) }) (v := ?_) rfl (by kernel_rfl) (by kernel_rfl) (by kernel_rfl) (fun _ _ _ h => h) (Or.inl ⟨by rfl, ?_⟩) hHeld ?_
        rotate_left
        · intro wz hSw; (try dsimp only at hSw); go_simp; try (with_reducible rfl)
        try simp only [Act.put, List.setIfInBounds_toArray, List.set_cons_zero, List.set_cons_succ]
        refine wpAnyH_take (i := 24) (oi := { dst := some 128, op := Op.move (Operand.tmp 12), type := 35, pos := "law.go:66", after := #[{ on := 23, ground := Ground.guard }], guard := some (23, true) }) (v := undef) rfl (by kernel_rfl) (by kernel_rfl) (by kernel_rfl) (fun _ _ _ h => h) (Or.inr ⟨by rfl, rfl⟩) hHeld ?_
        try simp only [Act.put, List.setIfInBounds_toArray, List.set_cons_zero, List.set_cons_succ]
        refine wpAnyH_take (i := 25) (oi := { dst := some 129, op := Op.binOp BinOp.neq 35 (Operand.tmp 128) (Operand.const (Value.int IntKind.i64 5)) 35, type := 4, pos := "law.go:66", after := #[{ on := 24, ground := Ground.data }, { on := 23, ground := Ground.guard }], guard := some (23, true) }) (v := undef) rfl (by kernel_rfl) (by kernel_rfl) (by kernel_rfl) (fun _ _ _ h => h) (Or.inr ⟨by rfl, rfl⟩) hHeld ?_
        try simp only [Act.put, List.setIfInBounds_toArray, List.set_cons_zero, List.set_cons_succ]
        refine wpAnyH_take (i := 26) (oi := { dst := some 130, op := Op.move (Operand.tmp 129), type := 4, pos := "law.go:66", after := #[{ on := 25, ground := Ground.data }, { on := 23, ground := Ground.chain }, { on := 23, ground := Ground.guard }], guard := some (23, true) }) (v := undef) rfl (by kernel_rfl) (by kernel_rfl) (by kernel_rfl) (fun _ _ _ h => h) (Or.inr ⟨by rfl, rfl⟩) hHeld ?_
        try simp only [Act.put, List.setIfInBounds_toArray, List.set_cons_zero, List.set_cons_succ]
        refine wpAnyH_take (i := 27) (oi := { dst := some 131, op := Op.load 32 (Operand.tmp 11), type := 32, pos := "law.go:66", after := #[{ on := 26, ground := Ground.guard }], guard := some (26, false) }) (v := undef) rfl (by kernel_rfl) (by kernel_rfl) (by kernel_rfl) (fun _ _ _ h => h) (Or.inr ⟨by rfl, rfl⟩) hHeld ?_
        try simp only [Act.put, List.setIfInBounds_toArray, List.set_cons_zero, List.set_cons_succ]
        refine wpAnyH_take (i := 28) (oi := { dst := some 132, op := Op.build 32 #[], type := 32, pos := "law.go:66", after := #[{ on := 26, ground := Ground.guard }], guard := some (26, false) }) (v := undef) rfl (by kernel_rfl) (by kernel_rfl) (by kernel_rfl) (fun _ _ _ h => h) (Or.inr ⟨by rfl, rfl⟩) hHeld ?_
        try simp only [Act.put, List.setIfInBounds_toArray, List.set_cons_zero, List.set_cons_succ]
        refine wpAnyH_take (i := 29) (oi := { dst := some 133, op := Op.binOp BinOp.neq 32 (Operand.tmp 131) (Operand.tmp 132) 32, type := 4, pos := "law.go:66", after := #[{ on := 27, ground := Ground.data }, { on := 28, ground := Ground.data }, { on := 26, ground := Ground.guard }], guard := some (26, false) }) (v := undef) rfl (by kernel_rfl) (by kernel_rfl) (by kernel_rfl) (fun _ _ _ h => h) (Or.inr ⟨by rfl, rfl⟩) hHeld ?_
        try simp only [Act.put, List.setIfInBounds_toArray, List.set_cons_zero, List.set_cons_succ]
        refine wpAnyH_take (i := 30) (oi := { dst := some 134, op := Op.pick (Operand.tmp 130) (Operand.const (Value.bool true)) (Operand.tmp 133), type := 4, pos := "law.go:66", after := #[{ on := 26, ground := Ground.data }, { on := 29, ground := Ground.data }, { on := 23, ground := Ground.guard }], guard := some (23, true) }) (v := undef) rfl (by kernel_rfl) (by kernel_rfl) (by kernel_rfl) (fun _ _ _ h => h) (Or.inr ⟨by rfl, rfl⟩) hHeld ?_
        try simp only [Act.put, List.setIfInBounds_toArray, List.set_cons_zero, List.set_cons_succ]
        refine wpAnyH_take (i := 31) (oi := { dst := some 135, op := Op.pick (Operand.tmp 127) (Operand.tmp 134) (Operand.const (Value.bool false)), type := 4, pos := "law.go:66", after := #[{ on := 23, ground := Ground.data }, { on := 30, ground := Ground.data }, { on := 20, ground := Ground.guard }], guard := some (20, false) }) (v := ?_) rfl (by kernel_rfl) (by kernel_rfl) (by kernel_rfl) (fun _ _ _ h => h) (Or.inl ⟨by rfl, ?_⟩) hHeld ?_
        rotate_left
        · intro wz hSw; (try dsimp only at hSw); go_simp; try (with_reducible rfl)
        try simp only [Act.put, List.setIfInBounds_toArray, List.set_cons_zero, List.set_cons_succ]
        refine wpAnyH_take (i := 32) (oi := { dst := some 136, op := Op.pick (Operand.tmp 124) (Operand.const (Value.bool true)) (Operand.tmp 135), type := 4, pos := "law.go:66", after := #[{ on := 20, ground := Ground.data }, { on := 31, ground := Ground.data }], guard := none }) (v := ?_) rfl (by kernel_rfl) (by kernel_rfl) (by kernel_rfl) (fun _ _ _ h => h) (Or.inl ⟨by rfl, ?_⟩) hHeld ?_
        rotate_left
        · intro wz hSw; (try dsimp only at hSw); go_simp; try (with_reducible rfl)
        try simp only [Act.put, List.setIfInBounds_toArray, List.set_cons_zero, List.set_cons_succ]
        refine wpAnyH_take (i := 33) (oi := { dst := some 137, op := Op.move (Operand.tmp 136), type := 4, pos := "law.go:66", after := #[{ on := 32, ground := Ground.data }, { on := 26, ground := Ground.chain }], guard := none }) (v := ?_) rfl (by kernel_rfl) (by kernel_rfl) (by kernel_rfl) (fun _ _ _ h => h) (Or.inl ⟨by rfl, ?_⟩) hHeld ?_
        rotate_left
        · intro wz hSw; (try dsimp only at hSw); go_simp; try (with_reducible rfl)
        try simp only [Act.put, List.setIfInBounds_toArray, List.set_cons_zero, List.set_cons_succ]
        refine wpAnyH_take (i := 34) (oi := { dst := some 138, op := Op.move (Operand.tmp 15), type := 3, pos := "law.go:66", after := #[{ on := 33, ground := Ground.guard }], guard := some (33, false) }) (v := ?_) rfl (by kernel_rfl) (by kernel_rfl) (by kernel_rfl) (fun _ _ _ h => h) (Or.inl ⟨by rfl, ?_⟩) hHeld ?_
        rotate_left
        · intro wz hSw; (try dsimp only at hSw); go_simp; try (with_reducible rfl)
        try simp only [Act.put, List.setIfInBounds_toArray, List.set_cons_zero, List.set_cons_succ]
        refine wpAnyH_take (i := 35) (oi := { dst := some 139, op := Op.move (Operand.tmp 4), type := 26, pos := "law.go:66", after := #[{ on := 33, ground := Ground.guard }], guard := some (33, false) }) (v := ?_) rfl (by kernel_rfl) (by kernel_rfl) (by kernel_rfl) (fun _ _ _ h => h) (Or.inl ⟨by rfl, ?_⟩) hHeld ?_
        rotate_left
        · intro wz hSw; (try dsimp only at hSw); go_simp; try (with_reducible rfl)
        try simp only [Act.put, List.setIfInBounds_toArray, List.set_cons_zero, List.set_cons_succ]
        refine wpAnyH_take (i := 36) (oi := { dst := some 140, op := Op.nilCheck (Operand.tmp 139), type := 0, pos := "law.go:66", after := #[{ on := 35, ground := Ground.data }, { on := 33, ground := Ground.guard }], guard := some (33, false) }) (v := ?_) rfl (by kernel_rfl) (by kernel_rfl) (by kernel_rfl) (fun _ _ _ h => h) (Or.inl ⟨by rfl, ?_⟩) hHeld ?_
        rotate_left
        · intro wz hSw; (try dsimp only at hSw); go_simp; try (with_reducible rfl)
        try simp only [Act.put, List.setIfInBounds_toArray, List.set_cons_zero, List.set_cons_succ]
        refine wpAnyH_take (i := 37) (oi := { dst := some 141, op := Op.fieldAddr 29 (Operand.tmp 140) 1, type := 0, pos := "law.go:66", after := #[{ on := 36, ground := Ground.data }, { on := 33, ground := Ground.guard }], guard := some (33, false) }) (v := ?_) rfl (by kernel_rfl) (by kernel_rfl) (by kernel_rfl) (fun _ _ _ h => h) (Or.inl ⟨by rfl, ?_⟩) hHeld ?_
        rotate_left
        · intro wz hSw; (try dsimp only at hSw); go_simp; try (with_reducible rfl)
        try simp only [Act.put, List.setIfInBounds_toArray, List.set_cons_zero, List.set_cons_succ]
        refine wpAnyH_take (i := 38) (oi := { dst := some 142, op := Op.load 3 (Operand.tmp 141), type := 3, pos := "law.go:66", after := #[{ on := 37, ground := Ground.data }, { on := 33, ground := Ground.guard }], guard := some (33, false) }) (v := ?_) rfl (by kernel_rfl) (by kernel_rfl) (by kernel_rfl) (fun _ _ _ h => h) (Or.inl ⟨by rfl, ?_⟩) hHeld ?_
        rotate_left
        · intro wz hSw; (try dsimp only at hSw); go_simp; try (with_reducible rfl)
        try simp only [Act.put, List.setIfInBounds_toArray, List.set_cons_zero, List.set_cons_succ]
        refine wpAnyH_take (i := 39) (oi := { dst := some 143, op := Op.binOp BinOp.neq 3 (Operand.tmp 138) (Operand.tmp 142) 3, type := 4, pos := "law.go:66", after := #[{ on := 34, ground := Ground.data }, { on := 38, ground := Ground.data }, { on := 33, ground := Ground.guard }], guard := some (33, false) }) (v := ?_) rfl (by kernel_rfl) (by kernel_rfl) (by kernel_rfl) (fun _ _ _ h => h) (Or.inl ⟨by rfl, ?_⟩) hHeld ?_
        rotate_left
        · intro wz hSw; (try dsimp only at hSw); go_simp; try (with_reducible rfl)
        try simp only [Act.put, List.setIfInBounds_toArray, List.set_cons_zero, List.set_cons_succ]
        refine wpAnyH_take (i := 40) (oi := { dst := some 144, op := Op.pick (Operand.tmp 137) (Operand.const (Value.bool true)) (Operand.tmp 143), type := 4, pos := "law.go:66", after := #[{ on := 33, ground := Ground.data }, { on := 39, ground := Ground.data }], guard := none }) (v := ?_) rfl (by kernel_rfl) (by kernel_rfl) (by kernel_rfl) (fun _ _ _ h => h) (Or.inl ⟨by rfl, ?_⟩) hHeld ?_
        rotate_left
        · intro wz hSw; (try dsimp only at hSw); go_simp; try (with_reducible rfl)
        try simp only [Act.put, List.setIfInBounds_toArray, List.set_cons_zero, List.set_cons_succ]
        refine wpAnyH_take (i := 41) (oi := { dst := some 145, op := Op.move (Operand.tmp 144), type := 4, pos := "law.go:66", after := #[{ on := 40, ground := Ground.data }, { on := 33, ground := Ground.chain }], guard := none }) (v := ?_) rfl (by kernel_rfl) (by kernel_rfl) (by kernel_rfl) (fun _ _ _ h => h) (Or.inl ⟨by rfl, ?_⟩) hHeld ?_
        rotate_left
        · intro wz hSw; (try dsimp only at hSw); go_simp; try (with_reducible rfl)
        try simp only [Act.put, List.setIfInBounds_toArray, List.set_cons_zero, List.set_cons_succ]
        refine wpAnyH_take (i := 42) (oi := { dst := some 146, op := Op.move (Operand.tmp 16), type := 4, pos := "law.go:66", after := #[{ on := 41, ground := Ground.guard }], guard := some (41, false) }) (v := ?_) rfl (by kernel_rfl) (by kernel_rfl) (by kernel_rfl) (fun _ _ _ h => h) (Or.inl ⟨by rfl, ?_⟩) hHeld ?_
        rotate_left
        · intro wz hSw; (try dsimp only at hSw); go_simp; try (with_reducible rfl)
        try simp only [Act.put, List.setIfInBounds_toArray, List.set_cons_zero, List.set_cons_succ]
        refine wpAnyH_take (i := 43) (oi := { dst := some 147, op := Op.move (Operand.tmp 4), type := 26, pos := "law.go:66", after := #[{ on := 41, ground := Ground.guard }], guard := some (41, false) }) (v := ?_) rfl (by kernel_rfl) (by kernel_rfl) (by kernel_rfl) (fun _ _ _ h => h) (Or.inl ⟨by rfl, ?_⟩) hHeld ?_
        rotate_left
        · intro wz hSw; (try dsimp only at hSw); go_simp; try (with_reducible rfl)
        try simp only [Act.put, List.setIfInBounds_toArray, List.set_cons_zero, List.set_cons_succ]
        refine wpAnyH_take (i := 44) (oi := { dst := some 148, op := Op.nilCheck (Operand.tmp 147), type := 0, pos := "law.go:66", after := #[{ on := 43, ground := Ground.data }, { on := 41, ground := Ground.guard }], guard := some (41, false) }) (v := ?_) rfl (by kernel_rfl) (by kernel_rfl) (by kernel_rfl) (fun _ _ _ h => h) (Or.inl ⟨by rfl, ?_⟩) hHeld ?_
        rotate_left
        · intro wz hSw; (try dsimp only at hSw); go_simp; try (with_reducible rfl)
        try simp only [Act.put, List.setIfInBounds_toArray, List.set_cons_zero, List.set_cons_succ]
        refine wpAnyH_take (i := 45) (oi := { dst := some 149, op := Op.fieldAddr 29 (Operand.tmp 148) 2, type := 0, pos := "law.go:66", after := #[{ on := 44, ground := Ground.data }, { on := 41, ground := Ground.guard }], guard := some (41, false) }) (v := ?_) rfl (by kernel_rfl) (by kernel_rfl) (by kernel_rfl) (fun _ _ _ h => h) (Or.inl ⟨by rfl, ?_⟩) hHeld ?_
        rotate_left
        · intro wz hSw; (try dsimp only at hSw); go_simp; try (with_reducible rfl)
        try simp only [Act.put, List.setIfInBounds_toArray, List.set_cons_zero, List.set_cons_succ]
        refine wpAnyH_take (i := 46) (oi := { dst := some 150, op := Op.load 4 (Operand.tmp 149), type := 4, pos := "law.go:66", after := #[{ on := 45, ground := Ground.data }, { on := 41, ground := Ground.guard }], guard := some (41, false) }) (v := ?_) rfl (by kernel_rfl) (by kernel_rfl) (by kernel_rfl) (fun _ _ _ h => h) (Or.inl ⟨by rfl, ?_⟩) hHeld ?_
        rotate_left
        · intro wz hSw; (try dsimp only at hSw); go_simp; try (with_reducible rfl)
        try simp only [Act.put, List.setIfInBounds_toArray, List.set_cons_zero, List.set_cons_succ]
        refine wpAnyH_take (i := 47) (oi := { dst := some 151, op := Op.binOp BinOp.eql 4 (Operand.tmp 146) (Operand.tmp 150) 4, type := 4, pos := "law.go:66", after := #[{ on := 42, ground := Ground.data }, { on := 46, ground := Ground.data }, { on := 41, ground := Ground.guard }], guard := some (41, false) }) (v := ?_) rfl (by kernel_rfl) (by kernel_rfl) (by kernel_rfl) (fun _ _ _ h => h) (Or.inl ⟨by rfl, ?_⟩) hHeld ?_
        rotate_left
        · intro wz hSw; (try dsimp only at hSw); go_simp; try (with_reducible rfl)
        try simp only [Act.put, List.setIfInBounds_toArray, List.set_cons_zero, List.set_cons_succ]
        refine wpAnyH_take (i := 48) (oi := { dst := some 152, op := Op.pick (Operand.tmp 145) (Operand.const (Value.bool true)) (Operand.tmp 151), type := 4, pos := "law.go:66", after := #[{ on := 41, ground := Ground.data }, { on := 47, ground := Ground.data }], guard := none }) (v := ?_) rfl (by kernel_rfl) (by kernel_rfl) (by kernel_rfl) (fun _ _ _ h => h) (Or.inl ⟨by rfl, ?_⟩) hHeld ?_
        rotate_left
        · intro wz hSw; (try dsimp only at hSw); go_simp; try (with_reducible rfl)
        try simp only [Act.put, List.setIfInBounds_toArray, List.set_cons_zero, List.set_cons_succ]
        refine wpAnyH_take (i := 49) (oi := { dst := some 153, op := Op.move (Operand.tmp 152), type := 4, pos := "law.go:66", after := #[{ on := 48, ground := Ground.data }, { on := 41, ground := Ground.chain }], guard := none }) (v := ?_) rfl (by kernel_rfl) (by kernel_rfl) (by kernel_rfl) (fun _ _ _ h => h) (Or.inl ⟨by rfl, ?_⟩) hHeld ?_
        rotate_left
        · intro wz hSw; (try dsimp only at hSw); go_simp; try (with_reducible rfl)
        try simp only [Act.put, List.setIfInBounds_toArray, List.set_cons_zero, List.set_cons_succ]
        refine wpAnyH_take (i := 50) (oi := { dst := some 154, op := Op.move (Operand.tmp 3), type := 24, pos := "law.go:66", after := #[{ on := 49, ground := Ground.guard }], guard := some (49, false) }) (v := ?_) rfl (by kernel_rfl) (by kernel_rfl) (by kernel_rfl) (fun _ _ _ h => h) (Or.inl ⟨by rfl, ?_⟩) hHeld ?_
        rotate_left
        · intro wz hSw; (try dsimp only at hSw); go_simp; try (with_reducible rfl)
        try simp only [Act.put, List.setIfInBounds_toArray, List.set_cons_zero, List.set_cons_succ]
        refine wpAnyH_take (i := 52) (oi := { dst := some 156, op := Op.move (Operand.tmp 4), type := 26, pos := "law.go:66", after := #[{ on := 49, ground := Ground.guard }], guard := some (49, false) }) (v := ?_) rfl (by kernel_rfl) (by kernel_rfl) (by kernel_rfl) (fun _ _ _ h => h) (Or.inl ⟨by rfl, ?_⟩) hHeld ?_
        rotate_left
        · intro wz hSw; (try dsimp only at hSw); go_simp; try (with_reducible rfl)
        try simp only [Act.put, List.setIfInBounds_toArray, List.set_cons_zero, List.set_cons_succ]
        refine wpAnyH_ready (rs := [51]) (by kernel_rfl) (by simp) ?_
        refine AllReadyH.cons (o := { dst := some 155, op := Op.call { callee := Callee.value (Operand.func 23), args := #[Operand.tmp 154], argTypes := #[24] }, type := 27, pos := "law.go:66", after := #[{ on := 50, ground := Ground.data }, { on := 49, ground := Ground.chain }, { on := 49, ground := Ground.guard }], guard := some (49, false) }) rfl (fun K hK => ?_) AllReadyH.nil
        go_simp
        refine (AC.out _ (Below.refl _ _).drew).mono ?_
        rintro r' w6 ⟨B1, d1, l1, rfl, hp1, ho1, s6⟩
        have P1 := Lib.hid (And.intro hp1 ho1)
        have S6 := Lib.hid s6
        clear s6 hp1 ho1
        go_wp2_with fail
        refine hK.out _ _ ?_ (fun hHeld => ?_)
        · exact CE.out w6 (Below.trans (Below.refl _ _).drew S6.out.below)
        clear hK K
        try simp only [Act.put, List.setIfInBounds_toArray, List.set_cons_zero, List.set_cons_succ]
        refine wpAnyH_ready (rs := [53]) (by kernel_rfl) (by simp) ?_
        refine AllReadyH.cons (o := { dst := some 157, op := Op.call { callee := Callee.value (Operand.func 24), args := #[Operand.tmp 156], argTypes := #[26] }, type := 27, pos := "law.go:66", after := #[{ on := 52, ground := Ground.data }, { on := 51, ground := Ground.chain }, { on := 49, ground := Ground.guard }], guard := some (49, false) }) rfl (fun K hK => ?_) AllReadyH.nil
        go_simp
        refine (BC.out _ (Below.trans (Below.refl _ _).drew S6.out.below)).mono ?_
        rintro r' w7 ⟨B2, d2, l2, rfl, hp2, ho2, s7⟩
        have P2 := Lib.hid (And.intro hp2 ho2)
        have S7 := Lib.hid (S6.out.join s7)
        clear s7 hp2 ho2
        go_wp2_with fail
        refine hK.out _ _ ?_ (fun hHeld => ?_)
        · exact CE.out w7 (Below.trans (Below.refl _ _).drew S7.out.below)
        clear hK K
        try simp only [Act.put, List.setIfInBounds_toArray, List.set_cons_zero, List.set_cons_succ]
        refine wpAnyH_ready (rs := [54]) (by kernel_rfl) (by simp) ?_
        refine AllReadyH.cons (o := { dst := some 158, op := Op.call { callee := Callee.value (Operand.func 22), args := #[Operand.tmp 155, Operand.tmp 157], argTypes := #[27, 27] }, type := 4, pos := "law.go:66", after := #[{ on := 51, ground := Ground.data }, { on := 53, ground := Ground.data }, { on := 53, ground := Ground.chain }, { on := 49, ground := Ground.guard }], guard := some (49, false) }) rfl (fun K hK => ?_) AllReadyH.nil
        go_simp
        refine (SC.out _ _ _ _ _ _ _ _ P1.out P2.out S7.out).mono ?_
        rintro r' w8 ⟨rfl, hb8⟩
        have Q8 := Lib.hid (below_then S7.out.below hb8)
        clear hb8
        go_wp2_with fail
        refine hK.out _ _ ?_ (fun hHeld => ?_)
        · exact CE.out w8 (Below.trans (Below.refl _ _).drew Q8.out)
        clear hK K
        try simp only [Act.put, List.setIfInBounds_toArray, List.set_cons_zero, List.set_cons_succ]
        refine wpAnyH_take (i := 55) (oi := { dst := some 159, op := Op.unOp UnOp.not 4 (Operand.tmp 158), type := 4, pos := "law.go:66", after := #[{ on := 54, ground := Ground.data }, { on := 49, ground := Ground.guard }], guard := some (49, false) }) (v := ?_) rfl (by kernel_rfl) (by kernel_rfl) (by kernel_rfl) (fun _ _ _ h => h) (Or.inl ⟨by rfl, ?_⟩) hHeld ?_
        rotate_left
        · intro wz hSw; (try dsimp only at hSw); go_simp; try (with_reducible rfl)
        try simp only [Act.put, List.setIfInBounds_toArray, List.set_cons_zero, List.set_cons_succ]
        refine wpAnyH_take (i := 56) (oi := { dst := some 160, op := Op.pick (Operand.tmp 153) (Operand.const (Value.bool true)) (Operand.tmp 159), type := 4, pos := "law.go:66", after := #[{ on := 49, ground := Ground.data }, { on := 55, ground := Ground.data }], guard := none }) (v := ?_) rfl (by kernel_rfl) (by kernel_rfl) (by kernel_rfl) (fun _ _ _ h => h) (Or.inl ⟨by rfl, ?_⟩) hHeld ?_
        rotate_left
        · intro wz hSw; (try dsimp only at hSw); go_simp; try (with_reducible rfl)
        try simp only [Act.put, List.setIfInBounds_toArray, List.set_cons_zero, List.set_cons_succ]
        refine wpAnyH_done (by kernel_rfl) ?_ _
        all_goals
          go_wp2_with fail
          go_roundw
          case rel => exact ⟨k + 1, s', by omega, by omega, by go_num, OK.out, by first | (rw [← HR.out]; exact S12.out.stay (Below.trans (Below.refl _ _).drew Q8.out)) | exact S12.out.stay (Below.trans (Below.refl _ _).drew Q8.out)⟩
          case measure => simp [intOf]; omega

set_option maxRecDepth 100000 in
theorem lifted (os : Os) (started : os.Started) (H : Type) (enc : TypeId × Value → H) :
    ReturnsInHanded {} Try.checked os 3 .any (Rows.orderPlaysSpec.pre6 enc Try.prog Try.f3 Rows.orderPlaysRow.domain false) (Rows.orderPlaysSpec.post enc Try.prog Try.f3 false true false false) := by
  refine law_lifted (C := Try.checked) (tb := 4) own started (by kernel_rfl) Try.func3
    (ChangeSpec.witness6 (enc := enc) (C := Try.checked) false ⟨#[], #[.slice none 0 0], []⟩ 8 (by kernel_rfl) (by kernel_rfl) (by kernel_rfl) (by kernel_rfl)) laid (by kernel_rfl) (by kernel_rfl) Try.underlying4 rfl ?_
  intro W base args ds ps hval0 hA0 hlt
  have hval : ∀ (j : Nat) t v, Try.f3.params[j]? = some t → args[j]? = some v → Value.okWide Try.prog W .any base t v := hval0
  have hA : DataW.TrodAll enc Try.prog W 0 (fun _ => true) true Try.f3.params.toList args.toList ds ps := hA0
  clear hA0 hval0
  rw [Try.params3] at hA hval
  obtain ⟨v0, vs0, d0, ds0, p0, q0, hargs, rfl, rfl, h0, r0⟩ := trodAll_cons hA
  obtain ⟨rfl, rfl, rfl⟩ := trodAll_nil r0
  obtain rfl : args = #[v0] := by cases args; simp_all
  obtain ⟨A0, n0, cap0, V0, rfl, le0, mx0, rd0, lf0⟩ := open_slice_spots (m := 4) (d := 20) (l := [(0, 3), (1, 3), (2, 30), (3, 3)]) Try.underlying22 (by kernel_rfl) (by decide) (by kernel_rfl) (hval 0 22 v0 rfl rfl) h0
  have f0_0 := fun j hj => leaf_int Try.underlying3 (lf0 0 3 (by simp) j hj)
  have f0_1 := fun j hj => leaf_int Try.underlying3 (lf0 1 3 (by simp) j hj)
  have f0_2 := fun j hj => leaf_int Try.underlying30 (lf0 2 30 (by simp) j hj)
  have f0_3 := fun j hj => leaf_int Try.underlying3 (lf0 3 3 (by simp) j hj)
  refine ⟨⟨rfl, rfl, rfl⟩, ?_⟩
  exact walk A0 n0 cap0 V0 W (by omega) rd0 (fun j hj => by
    obtain ⟨z, h0, -⟩ := f0_0 j hj
    obtain ⟨x0, h1, -⟩ := f0_1 j hj
    obtain ⟨x1, h2, b1⟩ := f0_2 j hj
    obtain ⟨x2, h3, -⟩ := f0_3 j hj
    exact ⟨z, ⟨x0, x1, x2⟩, h0, h1, h2, h3, (bounds_u64 b1).1⟩)

theorem over : Rows.orderPlaysRow.holds Try.pinned (OpenSpec.ofChange Rows.orderPlaysSpec) :=
  OpenClaim.holds_of_wide 3 Try.f3 rfl rfl rfl rfl rfl rfl rfl ⟨rfl, rfl, rfl, rfl, rfl⟩ rfl rfl rfl rfl rfl (by kernel_rfl) Try.func3 (by kernel_rfl)
    (of_decide_eq_true (by kernel_rfl)) (by unfold Func.isWrapper; first | (rw [if_pos (by decide +kernel)]; kernel_rfl) | (rw [if_neg (by decide +kernel)]; exact ⟨rfl, rfl⟩))
    (fun os started H enc _ => lifted os started H enc)
theorem proved : Rows.OrderPlaysSaid := over
#print axioms proved
end Go.Proofs.Ytmikjbhhnndncaa.orderPlays
