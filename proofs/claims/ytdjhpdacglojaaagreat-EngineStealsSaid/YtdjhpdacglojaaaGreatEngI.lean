/- Layer 24: the first look of the laws. -/
import Derived.Test.YtdjhpdacglojaaaGreatEngH
namespace Go.Proofs.YtdjhpdacglojaaaGreat
open Go.RowKit
set_option linter.unusedVariables false
set_option maxRecDepth 100000
set_option maxHeartbeats 4000000
def ec : bs.BC := ⟨2, fun _ => 0, fun _ => 0, fun _ => 5, fun _ => 10, 0⟩
theorem ec_ok : ec.OK := ⟨by decide, by decide, fun _ _ => by show (0 : Int) ≤ 0 ∧ (0 : Int) ≤ 100; omega, fun _ _ => by show (0 : Int) ≤ 0 ∧ (0 : Int) ≤ 1000; omega, fun _ _ => by show (1 : Int) ≤ 5 ∧ (5 : Int) ≤ 10 ∧ (10 : Int) ≤ 1099511627776; omega, by decide⟩
def e1 : bs.BS := (bs.slotF ec (bs.bs0 0) 0 (bs.okB 1 (fE [0]) 2) (bs.wantB 1 (fE [0]))).2.2
def e2 : bs.BS := (bs.slotF ec e1 1 (bs.okB 2 (fE [1, 0]) 2) (bs.wantB 2 (fE [1, 0]))).2.2
def e3 : bs.BS := (bs.slotF ec e2 2 (bs.okB 0 (fE []) 2) (bs.wantB 0 (fE []))).2.2
theorem er1 : bs.SlotR ec (bs.bs0 0) 0 (bs.okB ([] ++ [0] : List Int).length (fE ([] ++ [0])) ec.n) (bs.wantB ([] ++ [0] : List Int).length (fE ([] ++ [0]))) 0 0 e1 := bs.slotF_as (by decide) (by decide)
theorem er2 : bs.SlotR ec e1 1 (bs.okB ([1] ++ [0] : List Int).length (fE ([1] ++ [0])) ec.n) (bs.wantB ([1] ++ [0] : List Int).length (fE ([1] ++ [0]))) 0 0 e2 := bs.slotF_as (by decide) (by decide)
theorem er3 : bs.SlotR ec e2 2 (bs.okB ([] : List Int).length (fE []) ec.n) (bs.wantB ([] : List Int).length (fE [])) 0 5 e3 := bs.slotF_as (by decide) (by decide)
theorem echain : ∃ (C : bs.BC) (x1 x2 x3 : bs.BS), C.OK ∧ C.n = 2 ∧ C.ph = 0 ∧ bs.MV C (bs.V2 0 0 5 10) ∧ (bs.bs0 0).OK C 0 ∧
    bs.SlotR C (bs.bs0 0) 0 (bs.okB ([] ++ [0] : List Int).length (fE ([] ++ [0])) C.n) (bs.wantB ([] ++ [0] : List Int).length (fE ([] ++ [0]))) 0 0 x1 ∧
    bs.SlotR C x1 1 (bs.okB ([1] ++ [0] : List Int).length (fE ([1] ++ [0])) C.n) (bs.wantB ([1] ++ [0] : List Int).length (fE ([1] ++ [0]))) 0 0 x2 ∧
    bs.SlotR C x2 2 (bs.okB ([] : List Int).length (fE []) C.n) (bs.wantB ([] : List Int).length (fE [])) 0 5 x3 :=
  ⟨ec, e1, e2, e3, ec_ok, rfl, rfl, bs.v2_mv 0 0 5 10 0, bs.bs0_ok ec_ok, er1, er2, er3⟩
def r7e : Rq := ⟨7, 0, 50, 0, 0, 1, 1, 2, false, false, false, false⟩
section
variable {w0 w : World} {S0 : Nat → Prop} {X N L : List Res} {C : bs.BC} {a : Da} {n sz : Nat} {bp : Nat → Nat} {D : Dv} {e b g mb : Nat} {mp : Nat → Nat} {id : Int} {m : Mv} {s : bs.BS}
theorem both24_n {A : Option Addr} {cap k : Nat} {V : Nat → Nat → Value} (w : World) (hC : C.OK) (hn : C.n = k) (hph : C.ph = 0) (rd : RdM w A k 4 V) (hV : bs.MV C V) :
    Calls Tryz.prog 10 #[.slice A k cap] w fun r w' => ∃ a bp e b g mb mp r1 r2, r = .returned (.tuple #[ptrV a.p, ptrV a.d, ptrV e, ptrV r1, ptrV r2]) ∧ St w None w' (DvL a 4 2 bp (Dv.new (egS 4) 5) ++ (EngX e b g mb a.d mp C 0 idleV (bs.bs0 0) ++ [])) := by
  subst hn; exact both24_c w hC hph rd hV
theorem eng_N {j : Nat} {r : Res} (hj : N[j]? = some r) : (DvL a n sz bp D ++ (EngX e b g mb a.d mp C id m s ++ N))[11 + j]? = some r := by
  rw [List.getElem?_append_right (by simp [DvL]; omega), List.getElem?_append_right (by simp [DvL]; omega), ← hj]
  congr 1
  simp [DvL]; omega
theorem eng_box (H : St w0 S0 w (DvL a n sz bp D ++ (EngX e b g mb a.d mp C id m s ++ N))) (t : TypeId) (cs : Array Value) : St w0 S0 (w.alloc (.cells cs t)) (DvL a n sz bp D ++ (EngX e b g mb a.d mp C id m s ++ (N ++ [BlkR w.heap.size t cs]))) := by
  have h := H.box t cs
  rw [List.append_assoc, List.append_assoc] at h
  exact h
theorem rds_blk1 {q : Nat} {t : TypeId} {v : Value} (h : Blk w q t #[v]) : Rds w (some ⟨q, 0, none⟩) 1 1 [v] := ⟨rfl, Or.inr ⟨q, 0, rfl, fun j u hu => by
  match j, hu with
  | 0, hu => rw [Nat.zero_add, h.cell]; simpa using hu
  | j + 1, hu => simp at hu⟩⟩
theorem fldE (t u v : Int) (W : World) : (Instr.field 49 (.agg #[.int .i64 t, .int .i64 u, .int .i64 v]) 0).run Tryz.prog W = .ok (.int .i64 t) W := by kernel_rfl
theorem awake24_c (w : World) : Calls Tryz.prog 7 #[] w fun e w' => e = .returned (.bool true) ∧ Below w.heap.size w w' := by
  obtain ⟨C, x1, x2, x3, hC, hn, hph, hV, hk, hr1, hr2, hr3⟩ := echain
  have l0 := egS_len 4 0 (by omega)
  have hlen : ((egS 4 0).bs.length : Int) = 8 := by rw [l0.1]; rfl
  have hgen : (egS 4 0).gen = 1 := l0.2.1
  have hown : (egS 4 0).owner = 1 := l0.2.2.1
  obtain ⟨D1, hP1, O1⟩ := one_sub (i := 0) (r := r7e) (c := 5) (stt := 0) (bad := false) (egI (k := 4)) rfl (by omega) rfl hgen.symm hown (by rw [hlen]; decide) ⟨rfl, rfl, rfl⟩ (by show (5 : Int) < 50; omega)
  rw [hlen] at hP1
  have hz0 : po.SizeP 4 (Dv.new (egS 4) 5).st 0 1 8 0 := Or.inr ⟨0, by omega, rfl, by show (egS 4 0).owner ≠ 0; omega, hgen, hlen.symm, rfl⟩
  have ho0 : po.OwnerP 4 (Dv.new (egS 4) 5).st 0 1 1 (egS 4 0).refs 0 := Or.inr ⟨0, by omega, rfl, by show (egS 4 0).owner ≠ 0; omega, hgen, hown.symm, rfl, rfl⟩
  have HP1 := Lib.hid hP1
  have HZ0 := Lib.hid hz0
  have HO0 := Lib.hid ho0
  have HO1 := Lib.hid O1
  have HC := Lib.hid hC
  have HK0 := Lib.hid hk
  have HK1 := Lib.hid (hr1.next hk)
  have HK2 := Lib.hid (hr2.next (hr1.next hk))
  have HR1 := Lib.hid hr1
  have HR2 := Lib.hid hr2
  have HR3 := Lib.hid hr3
  have RD := bs.v2_rd (w.alloc (.cells #[.int .i64 0, .int .i64 0, .int .u64 5, .int .u64 10] 78)) 78 0 0 5 10
  rw [show (w.alloc (.cells #[.int .i64 0, .int .i64 0, .int .u64 5, .int .u64 10] 78)).heap.size = w.heap.size + 1 by simp] at RD
  have KB := Lib.hid (both24_n (cap := 2) _ hC hn hph RD hV)
  have BB := Lib.hid ((((St.begin w).alloc (.cells #[.int .i64 0, .int .i64 0, .int .u64 5, .int .u64 10] 78)).alloc (.cells #[.int .i64 0, .int .i64 0, .int .u64 5, .int .u64 10, .int .i64 0, .int .i64 0, .int .u64 5, .int .u64 10] 78)).below)
  have s1 : St w None _ [_] := (St.begin w).box 78 #[.int .i64 0, .int .i64 0, .int .u64 5, .int .u64 10]
  obtain ⟨q0, q1, q2, q3⟩ := (s1.blk 0 rfl).four
  clear hP1 hz0 ho0 O1 l0 hlen hgen hown hC hk hr1 hr2 hr3 hn hph hV RD s1
  go_enter Tryz.func7, Tryz.ntmps7
  go_wp2_with fail
  refine KB.out.mono ?_
  rintro r w1 ⟨a, bp, e, b, g, mb, mp, r1, r2, rfl, s1⟩
  have K2 := Lib.hid (subD_o s1 egI r7e ⟨rfl, rfl, rfl, rfl⟩ (wf_small (by decide) (by decide)) (by decide) (by decide) HZ0.out HO0.out HP1.out)
  unfold r7e Rq.req at K2
  clear s1 KB q0 q1 q2 q3
  go_wp2_with fail
  refine K2.out.mono ?_
  rintro r w2 ⟨rfl, bq, s2⟩
  have K3 := Lib.hid (startW s2 HO1.out.I)
  clear s2 K2
  go_wp2_with fail
  refine K3.out.mono ?_
  rintro r w3 ⟨B6, d6, ids, D2, rfl, -, -, hF, hI2, e1, e2, e3, -, e5, s3'⟩
  obtain ⟨rfl, O2⟩ := HO1.out.start hI2 hF e1 e2 e3 e5
  have S3 := Lib.hid (show St _ None w3 (DvL a 4 2 bq D2 ++ (EngX e b g mb a.d mp C 0 idleV (bs.bs0 0) ++ [])) from s3'.take 11)
  have K4 := Lib.hid (eslot_o S3.out hI2 idle_ok HC.out HK0.out (by omega) (now := 0) (by omega) (A := none) (cp := 0) (l := []) (by simp) (fun W D m s h => ⟨rfl, Or.inl rfl⟩) 8)
  have HO2 := Lib.hid O2
  clear s3' K3 hF hI2 e1 e2 e3 e5 O2 S3
  go_wp2_with fail
  refine K4.out.mono ?_
  rintro r w4 ⟨v, f, D3, m3, s', rfl, hS, hI3, hm3, s4⟩
  obtain ⟨rfl, rfl, rfl, rfl, O3⟩ := HO2.out.slot1 (i := 0) (by omega) rfl (by decide) HR1.out hS hI3
  have HO3 := Lib.hid O3
  have HM3 := Lib.hid hm3
  have S4 := Lib.hid s4
  have K5 := Lib.hid (estate_c (eng_blk s4))
  clear K4 hS hI3 hm3 s4 O3 HO2
  have CM := Lib.hid (fun (W : World) (bq : Nat → Nat) (D : Dv) (m : Mv) (s : bs.BS) (q : Nat) (N : List Res) (h : St (((w.alloc (.cells #[.int .i64 0, .int .i64 0, .int .u64 5, .int .u64 10] 78)).alloc (.cells #[.int .i64 0, .int .i64 0, .int .u64 5, .int .u64 10, .int .i64 0, .int .i64 0, .int .u64 5, .int .u64 10] 78))) None W (DvL a 4 2 bq D ++ (EngX e b g mb a.d mp C 0 m s ++ ([BlkR q 49 #[.int .i64 0, .int .i64 1, .int .i64 2]] ++ N)))) => (h.blk 11 rfl).three)
  go_wp2_with fail
  refine K5.out.mono ?_
  rintro r w5 ⟨rfl, hb5⟩
  have S5 := S4.out.stay hb5
  have S6 := eng_box S5 49 #[.int .i64 0, .int .i64 1, .int .i64 2]
  have S7 := eng_box S6 3 #[.int .i64 1]
  obtain ⟨sb, hsb⟩ : ∃ sb, w5.heap.size = sb := ⟨_, rfl⟩
  rw [show (w5.alloc (.cells #[.int .i64 0, .int .i64 1, .int .i64 2] 49)).heap.size = sb + 1 by simp [hsb], hsb] at S7
  have K6 := Lib.hid (eslot_o S7 HO3.out.I HM3.out HC.out HK1.out (by omega) (now := 1) (by omega) (A := some ⟨sb + 1, 0, none⟩) (cp := 1) (l := [1]) (by simp) (fun W D m s h => rds_blk1 (h.blk 12 rfl)) 9)
  clear S4 S5 S6 S7 K5 hb5
  go_wp2_with fail
  refine K6.out.mono ?_
  rintro r w6 ⟨v, f, D4, m4, s4', rfl, hS, hI4, hm4, s6⟩
  obtain ⟨rfl, rfl, rfl, rfl, O4⟩ := HO3.out.slot2 (i := 0) (a := 1) (by omega) rfl (by omega) rfl HR2.out hS hI4
  have HO4 := Lib.hid O4
  have K7 := Lib.hid (reapW s6 hI4)
  clear K6 hS hI4 hm4 s6 O4 HO3 HM3
  go_wp2_with fail
  refine K7.out.mono ?_
  rintro r w7 ⟨d6, f6, g6, k6, q6, st6, rfl, hP6, hk6, hI6, hK6, s7⟩
  obtain ⟨rfl, hreq, O5⟩ := HO4.out.reap hP6 hk6 hI6 hK6
  rw [if_pos rfl, hreq, show r7e.id = 7 from rfl]
  generalize Dv.rpD _ _ _ _ _ _ _ = D5 at *
  have hr := O5.reads (i := 0) (a := 0) (m := 4) (by omega) (by show (1 : Int) ≠ 0; omega) (by refine ⟨by omega, ?_, by omega, ?_⟩ <;> decide)
  rw [show ((((wrS (wrS (egS 4) 0 (r7e.frm).toNat [8]) 0 (r7e.frm + 1).toNat [9]) 0).bs.drop (0 : Int).toNat).take (4 : Int).toNat) = [0, 8, 9, 0] from by decide, show (wrS (wrS (egS 4) 0 (r7e.frm).toNat [8]) 0 (r7e.frm + 1).toNat [9] 0).gen = 1 from rfl] at hr
  have K8 := Lib.hid (po.read_o s7 1 rfl O5.I.c.pok hr)
  have HO5 := Lib.hid O5
  clear K7 hP6 hk6 hI6 hK6 s7 O5 HO4 hreq hr
  go_wp2_with fail
  refine K8.out.mono ?_
  rintro r w8 ⟨B8, c8, rfl, s8⟩
  have S8 := Lib.hid (show St _ None w8 (DvL a 4 2 bq D5 ++ (EngX e b g mb a.d mp C 0 idleV s4' ++ [BlkR sb 49 #[.int .i64 0, .int .i64 1, .int .i64 2], BlkR (sb + 1) 3 #[.int .i64 1], LisR 5 1 (.slice B8 4 c8) 4 (po.bys [0, 8, 9, 0])])) from s8)
  have K9 := Lib.hid (eslot_o S8.out HO5.out.I idle_ok HC.out HK2.out (by omega) (now := 2) (by omega) (A := none) (cp := 0) (l := []) (by simp) (fun W D m s h => ⟨rfl, Or.inl rfl⟩) 5)
  clear K8 s8 S8
  go_wp2_with fail
  refine K9.out.mono ?_
  rintro r w9 ⟨v, f, D6, m6, s6', rfl, hS, hI6, hm6, s9⟩
  obtain ⟨rfl, rfl, rfl, rfl, rfl⟩ := eslot_none (HO5.out.htaken.trans HO5.out.hput.symm) HR3.out hS
  obtain ⟨gb, go_, rfl, gc⟩ := (s9.lis 13 rfl).reads.2.resolve_left (by simp)
  have g1 : w9.cell? ⟨gb, go_ + 1, none⟩ = some (.int .u8 8) := gc 1 _ rfl
  have g2 : w9.cell? ⟨gb, go_ + 2, none⟩ = some (.int .u8 9) := gc 2 _ rfl
  have g3 : w9.cell? ⟨gb, go_ + 3, none⟩ = some (.int .u8 0) := gc 3 _ rfl
  obtain ⟨m0, m1, m2⟩ := CM.out _ _ _ _ _ _ _ s9
  have K10 := Lib.hid (estate_c (eng_blk s9))
  have FB := Lib.hid (below_then BB.out s9.below)
  clear K9 hS hI6 hm6 s9 gc HO5
  go_wp2_with fail
  refine K10.out.mono ?_
  rintro r w10 ⟨rfl, hb⟩
  have fx := fldE (-1) 0 0 w10
  unfold idleV
  dsimp only
  go_wp2_with fail
  go_ret
  exact ⟨rfl, below_then FB.out hb⟩
end
end Go.Proofs.YtdjhpdacglojaaaGreat
