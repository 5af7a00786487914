/- Layer 25: a record that came in; may it be? -/
import Derived.Test.YtlceanlenekanaaDoorTraC
namespace Go.Proofs.YtlceanlenekanaaDoor
open Go.RowKit
set_option linter.unusedVariables false
set_option maxRecDepth 100000
set_option maxHeartbeats 4000000
theorem Blk.five5 {w : World} {g : Nat} {t : TypeId} {a b c d e : Value} (h : Blk w g t #[a, b, c, d, e]) : w.cell? ⟨g, 0, none⟩ = some a ∧ w.cell? ⟨g, 1, none⟩ = some b ∧ w.cell? ⟨g, 2, none⟩ = some c ∧ w.cell? ⟨g, 3, none⟩ = some d ∧ w.cell? ⟨g, 4, none⟩ = some e :=
  ⟨h.cell 0, h.cell 1, h.cell 2, h.cell 3, h.cell 4⟩
/-- The cells of a row of outcomes. -/
def RdF (w : World) (A : Option Addr) (fs : List (Int × Int × Int)) : Prop := ∀ i f, fs[i]? = some f → ∃ g off, A = some ⟨g, off, none⟩ ∧ g < w.heap.size ∧ w.cell? ⟨g, off + i * 3, none⟩ = some (.int .i64 f.1) ∧ w.cell? ⟨g, off + i * 3 + 1, none⟩ = some (.int .i64 f.2.1) ∧ w.cell? ⟨g, off + i * 3 + 2, none⟩ = some (.int .i64 f.2.2)
theorem RdF.on {w w' : World} {A : Option Addr} {fs : List (Int × Int × Int)} (h : RdF w A fs) (hb : Below w.heap.size w w') : RdF w' A fs := fun i f hf => by
  obtain ⟨g, o, e, h1, h2, h3, h4⟩ := h i f hf
  refine ⟨g, o, e, Nat.lt_of_lt_of_le h1 hb.size, ?_, ?_, ?_⟩
  · rw [← h2]; exact World.cell?_of_block (w := w) (hb.block g h1)
  · rw [← h3]; exact World.cell?_of_block (w := w) (hb.block g h1)
  · rw [← h4]; exact World.cell?_of_block (w := w) (hb.block g h1)
/-- A record as it came in: its data, and where they lie. -/
structure Rec where
  t : Tk
  A1 : Option Addr
  A2 : Option Addr
  A3 : Option Addr
  A4 : Option Addr
  n1 : Nat
  n2 : Nat
  n3 : Nat
  n4 : Nat
  c1 : Nat
  c2 : Nat
  c3 : Nat
  c4 : Nat
def Rec.cells (r : Rec) : Array Value := #[.int .i64 r.t.who, .slice r.A1 r.n1 r.c1, .slice r.A2 r.n2 r.c2, .slice r.A3 r.n3 r.c3, .slice r.A4 r.n4 r.c4]
structure Rec.At (r : Rec) (w : World) : Prop where
  l1 : r.t.dn.length = r.n1
  l2 : r.t.ct.length = r.n2
  l3 : r.t.ms.length = r.n3
  l4 : r.t.ft.length = r.n4
  m1 : r.n1 ≤ 100000
  m2 : r.n2 ≤ 100000
  m3 : r.n3 ≤ 100000
  m4 : r.n4 ≤ 100000
  r1 : RdI w r.A1 r.t.dn
  r2 : RdI w r.A2 r.t.ct
  r3 : RdI w r.A3 r.t.ms
  r4 : RdF w r.A4 r.t.ft
theorem RdI.on2 {w w' : World} {B : Option Addr} {xs : List Int} (h : RdI w B xs) (hb : Below w.heap.size w w') : RdI w' B xs := fun i u hu => by
  obtain ⟨g, off, e, h1, h2⟩ := h i u hu
  refine ⟨g, off, e, Nat.lt_of_lt_of_le h1 hb.size, ?_⟩
  rw [← h2]
  exact World.cell?_of_block (w := w) (hb.block g h1)
theorem Rec.At.on {r : Rec} {w w' : World} (h : r.At w) (hb : Below w.heap.size w w') : r.At w' :=
  ⟨h.l1, h.l2, h.l3, h.l4, h.m1, h.m2, h.m3, h.m4, h.r1.on2 hb, h.r2.on2 hb, h.r3.on2 hb, h.r4.on hb⟩
theorem allF_none {fs : List (Int × Int × Int)} {i : Nat} {f : Int × Int × Int} (h : fs[i]? = some f) (hf : mayF f = false) : fs.all mayF = false := by
  rw [Bool.eq_false_iff]
  intro ha
  have := List.all_eq_true.1 ha f (List.mem_of_getElem? h)
  rw [hf] at this; cases this
theorem allF_more {fs : List (Int × Int × Int)} {i : Nat} {f : Int × Int × Int} (h : fs[i]? = some f) (hf : mayF f = true) (ha : (fs.take i).all mayF = true) : (fs.take (i + 1)).all mayF = true := by
  rw [List.take_add_one, h, List.all_append, ha]
  simp [hf]
theorem tmay_o (r : Rec) (w : World) (h : r.At w) : Calls Tryd.prog 10 #[.agg r.cells] w fun e w' => e = .returned (.bool (mayT r.t)) ∧ Below w.heap.size w w' := by
  obtain ⟨t, A1, A2, A3, A4, n1, n2, n3, n4, c1, c2, c3, c4⟩ := r
  have hb := (St.begin w).box 27 (Rec.mk t A1 A2 A3 A4 n1 n2 n3 n4 c1 c2 c3 c4).cells
  obtain ⟨a, ha⟩ : ∃ a, w.heap.size = a := ⟨_, rfl⟩
  rw [ha] at hb
  unfold Rec.cells at hb ⊢
  dsimp only at hb ⊢
  obtain ⟨p0, p1, p2, p3, p4⟩ := (hb.blk 0 rfl).five5
  have HH := Lib.hid h
  have HB := Lib.hid hb
  have l4 : t.ft.length = n4 := h.l4
  have m4 : n4 ≤ 100000 := h.m4
  clear h hb
  go_enter Tryd.func10, Tryd.ntmps10
  go_wp2
  clear p0 p1 p2 p3 p4
  go_loopw [4, 8] (fun _ x8 wr => ∃ i : Nat, i ≤ n4 ∧ x8 = .int .i64 (i : Int) ∧ (t.ft.take i).all mayF = true ∧ St w None wr [BlkR a 27 #[.int .i64 t.who, .slice A1 n1 c1, .slice A2 n2 c2, .slice A3 n3 c3, .slice A4 n4 c4]]) (fun _ x8 _ => n4 - (intOf x8).toNat)
  case atStart => exact ⟨0, Nat.zero_le _, rfl, rfl, HB.out⟩
  case round =>
  obtain ⟨i, hi, rfl, had, hst⟩ := hrel
  have HD := Lib.hid had
  clear had
  by_cases hlt : i < n4
  · have z1 : decide ((i : Int) < (n4 : Int)) = true := decide_eq_true (by omega)
    obtain ⟨f, hf⟩ : ∃ f, t.ft[i]? = some f := ⟨t.ft[i]'(by omega), List.getElem?_eq_getElem _⟩
    obtain ⟨g, o, hA4, hg, k0, k1, k2⟩ := (HH.out.on hst.below).r4 i f hf
    dsimp only at hA4
    subst hA4
    have KF := Lib.hid (mayFate_o f.1 f.2.1 f.2.2)
    have HF := Lib.hid hf
    have HS := Lib.hid (hst.box 36 (fV f))
    unfold fV at HS
    clear hst hf
    have e : mayF (f.1, f.2.1, f.2.2) = mayF f := rfl
    rw [e] at KF
    clear e
    cases hv : mayF f with
    | true =>
      rw [hv] at KF
      have H2 := Lib.hid (allF_more HF.out hv HD.out)
      clear hv
      go_wp2_with (go_at_call 20; refine (KF.out _).mono ?_; rintro e w5 ⟨rfl, hb5⟩)
      go_roundw
      case rel => exact ⟨i + 1, by omega, by go_num, H2.out, (HS.out.stay hb5).take 1⟩
      case measure => simp [intOf]; omega
    | false =>
      rw [hv] at KF
      have H2 := Lib.hid (allF_none HF.out hv)
      clear hv
      go_wp2_with (go_at_call 20; refine (KF.out _).mono ?_; rintro e w5 ⟨rfl, hb5⟩)
      go_ret
      exact ⟨by unfold mayT; rw [H2.out]; rfl, (HS.out.stay hb5).below⟩
  obtain rfl : i = n4 := by omega
  have z1 : decide ((i : Int) < (i : Int)) = false := decide_eq_false (by omega)
  have hall : t.ft.all mayF = true := by have := HD.out; rw [List.take_of_length_le (by omega)] at this; exact this
  obtain ⟨p0, p1, p2, p3, p4⟩ := (hst.blk 0 rfl).five5
  have hat := HH.out.on hst.below
  have K1 := Lib.hid (rises_o A1 n1 c1 t.dn wr hat.l1 (by have : n1 ≤ 100000 := hat.m1; omega) hat.r1)
  have K2 := Lib.hid (rises_o A2 n2 c2 t.ct wr hat.l2 (by have : n2 ≤ 100000 := hat.m2; omega) hat.r2)
  have K3 := Lib.hid (rises_o A3 n3 c3 t.ms wr hat.l3 (by have : n3 ≤ 100000 := hat.m3; omega) hat.r3)
  have K0 := Lib.hid (mayWho_o t.who wr)
  have HV := Lib.hid (show mayT t = (mayW t.who && rsI (-1) t.dn && rsI (-1) t.ct && rsI (-1) t.ms) by unfold mayT; rw [hall]; rfl)
  have HS := Lib.hid hst.below
  clear hall hat hst
  cases h0 : mayW t.who with
  | false =>
    rw [h0] at K0 HV
    go_wp2_with (go_at_call 21; refine K0.out.mono ?_; rintro e w5 ⟨rfl, rfl⟩)
    go_ret
    exact ⟨by rw [HV.out]; rfl, HS.out⟩
  | true =>
  rw [h0] at K0 HV
  cases h1 : rsI (-1) t.dn with
  | false =>
    rw [h1] at K1 HV
    go_wp2_with fail
    refine K0.out.mono ?_
    rintro e w5 ⟨rfl, rfl⟩
    go_wp2_with fail
    refine K1.out.mono ?_
    rintro e w5 ⟨rfl, rfl⟩
    go_wp2_with fail
    go_ret
    exact ⟨by rw [HV.out]; rfl, HS.out⟩
  | true =>
  rw [h1] at K1 HV
  cases h2 : rsI (-1) t.ct with
  | false =>
    rw [h2] at K2 HV
    go_wp2_with fail
    refine K0.out.mono ?_
    rintro e w5 ⟨rfl, rfl⟩
    go_wp2_with fail
    refine K1.out.mono ?_
    rintro e w5 ⟨rfl, rfl⟩
    go_wp2_with fail
    refine K2.out.mono ?_
    rintro e w5 ⟨rfl, rfl⟩
    go_wp2_with fail
    go_ret
    exact ⟨by rw [HV.out]; rfl, HS.out⟩
  | true =>
  rw [h2] at K2 HV
  obtain ⟨b, hb⟩ : ∃ b, rsI (-1) t.ms = b := ⟨_, rfl⟩
  rw [hb] at K3 HV
  go_wp2_with fail
  refine K0.out.mono ?_
  rintro e w5 ⟨rfl, rfl⟩
  go_wp2_with fail
  refine K1.out.mono ?_
  rintro e w5 ⟨rfl, rfl⟩
  go_wp2_with fail
  refine K2.out.mono ?_
  rintro e w5 ⟨rfl, rfl⟩
  go_wp2_with fail
  refine K3.out.mono ?_
  rintro e w5 ⟨rfl, rfl⟩
  go_wp2_with fail
  go_ret
  exact ⟨by rw [HV.out]; rfl, HS.out⟩
end Go.Proofs.YtlceanlenekanaaDoor
