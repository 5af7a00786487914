/- Layer 25: parts joined; a record's text. -/
import Derived.Test.YtlceanlenekanaaDoorTraF
import Derived.Shelf.Strings.BuilderRune
namespace Go.Proofs.YtlceanlenekanaaDoor
open Go.RowKit
set_option linter.unusedVariables false
set_option maxRecDepth 100000
set_option maxHeartbeats 1000000
@[go_sem] theorem as_mark_no (v : Value) (xT : TypeId) (w : World) : (Instr.typeAssert (.iface 70 v) xT 3 true).run Tryd.prog w = .ok (.tuple #[.int .i64 0, .bool false]) w := by kernel_rfl
@[go_sem] theorem as_mark (v : Value) (xT : TypeId) (w : World) : (Instr.typeAssert (.iface 70 v) xT 70 true).run Tryd.prog w = .ok (.tuple #[v, .bool true]) w := by kernel_rfl
@[go_sem] theorem as_mark_must (v : Value) (xT : TypeId) (w : World) : (Instr.typeAssert (.iface 70 v) xT 70 false).run Tryd.prog w = .ok v w := by kernel_rfl
@[go_sem] theorem as_int_mark (v : Value) (xT : TypeId) (w : World) : (Instr.typeAssert (.iface 3 v) xT 70 true).run Tryd.prog w = .ok (.tuple #[.int .i32 0, .bool false]) w := by kernel_rfl
theorem tab_up {B B' : Nat} {w : World} (h : TabB B w) (hB : B ≤ B') : TabB B' w := fun w' hb => h w' (hb.mono hB)
/-- A builder that holds these bytes. -/
abbrev BldR (b : Nat) (l : List UInt8) (w : World) : Prop := Lib.IsBuilderF 63 5 b b (Lib.byteCells l) w
theorem bldF_stay {T e : TypeId} {B b : Nat} {p : Value} {bs : List Value} {w w' : World} (h : Lib.BuilderAtF T e B b p bs w) (hb : Below w.heap.size w w') : Lib.BuilderAtF T e B b p bs w' := by
  obtain ⟨h1, v, h2, h3, h4⟩ := h
  have lt : ∀ {k : Nat} {x : Obj}, w.heap[k]? = some x → w'.heap[k]? = some x := fun {k x} e => by
    have hk : k < w.heap.size := (Array.getElem?_eq_some_iff.1 e).1
    rw [hb.block k hk]; exact e
  refine ⟨h1, v, lt h2, ⟨h3.1, ?_⟩, h4⟩
  rcases h3.2 with hn | ⟨g, cap, cur, fz, e1, e2, e3, rest⟩
  · exact Or.inl hn
  · exact Or.inr ⟨g, cap, cur, fz, e1, e2, lt e3, rest⟩
theorem BldR.stay {b : Nat} {l : List UInt8} {w w' : World} (h : BldR b l w) (hb : Below w.heap.size w w') : BldR b l w' :=
  h.elim (fun h => Or.inl (bldF_stay h hb)) fun h => Or.inr (bldF_stay h hb)
theorem wstr_o (b : Nat) (l u : List UInt8) (w : World) (h : BldR b l w) (hl : l.length + u.length ≤ 100000000) (hb : b ≤ w.heap.size) :
    Calls Tryd.prog 30 #[.pointer (some ⟨b, 0, none⟩), .string ⟨u.toArray⟩] w fun e w' => e = .returned (.tuple #[.int .i64 u.length, .nilIface]) ∧ BldR b (l ++ u) w' ∧ Below b w w' := by
  have k := Any.Builder_WriteString_k YtlceanlenekanaaDoor.shWS YtlceanlenekanaaDoor.shWSX b b (Lib.byteCells l) ⟨u.toArray⟩ w h (by rw [Lib.byteCells_length]; exact Nat.le_trans hl (by decide)) hb
  change Calls Tryd.prog 30 _ _ _ at k
  refine k.mono fun e w' ⟨he, h1, h2, _⟩ => ⟨he, Or.inr ?_, h2⟩
  rw [Lib.byteCells_append]
  exact h1
theorem wrune_o (b : Nat) (l : List UInt8) (r : Int) (w : World) (h : BldR b l w) (h0 : 0 ≤ r) (h1 : r ≤ 127) (hl : l.length ≤ 100000000) (hb : b ≤ w.heap.size) :
    Calls Tryd.prog 32 #[.pointer (some ⟨b, 0, none⟩), .int .i32 r] w fun e w' => ∃ k, e = .returned (.tuple #[.int .i64 k, .nilIface]) ∧ BldR b (l ++ [UInt8.ofNat r.toNat]) w' ∧ Below b w w' := by
  have k := Any.Builder_WriteRune_k YtlceanlenekanaaDoor.shWR YtlceanlenekanaaDoor.shWRX b b (Lib.byteCells l) r (by omega) (by omega) w h (by rw [Lib.byteCells_length]; exact Nat.le_trans (Nat.add_le_add_right hl 4) (by decide)) hb
  change Calls Tryd.prog 32 _ _ _ at k
  refine k.mono fun e w' ⟨he, h2, h3, _⟩ => ⟨_, he, Or.inr ?_, h3⟩
  rw [Lib.byteCells_append]
  rw [← Lib.byteCells_encodeRune] at h2
  have e : Lib.encodeRune r = [UInt8.ofNat r.toNat] := by unfold Lib.encodeRune; rw [Lib.encodeRuneZ_one h0 h1]; rfl
  rw [e] at h2
  exact h2
theorem bstr_o (b : Nat) (l : List UInt8) (w : World) (h : BldR b l w) (hb : b ≤ w.heap.size) :
    Calls Tryd.prog 33 #[.pointer (some ⟨b, 0, none⟩)] w fun e w' => e = .returned (stV l) ∧ Below b w w' := by
  have k := Any.Builder_String_any_k YtlceanlenekanaaDoor.shST YtlceanlenekanaaDoor.shSTX b b l w h hb
  change Calls Tryd.prog 33 _ _ _ at k
  exact k.mono fun e w' ⟨he, _, h2, _⟩ => ⟨he, h2⟩
/-- A part that can be told. -/
def okI : It → Prop
  | .m r => 0 ≤ r ∧ r ≤ 127
  | .n x => 0 ≤ x ∧ x ≤ 2147483647
theorem itB_len {i : It} (h : okI i) : (itB i).length ≤ 10 := by
  cases i with
  | m r => exact Nat.succ_le_succ (Nat.zero_le _)
  | n x => exact digs_max 9 _ (by have : 0 ≤ x ∧ x ≤ 2147483647 := h; omega)
theorem itsB_len : ∀ l : List It, (∀ i ∈ l, okI i) → (itsB l).length ≤ 10 * l.length
  | [], _ => Nat.le_refl _
  | i :: l, h => by
    have h1 := itB_len (h i List.mem_cons_self)
    have h2 := itsB_len l fun j hj => h j (List.mem_cons_of_mem _ hj)
    unfold itsB at h2 ⊢
    rw [List.flatMap_cons, List.length_append, List.length_cons]
    omega
theorem itsB_snoc (l : List It) (i : Nat) (x : It) (h : l[i]? = some x) : itsB (l.take (i + 1)) = itsB (l.take i) ++ itB x := by
  rw [take_snoc h, itsB_app]
  unfold itsB
  simp
theorem itVs_get {l : List It} {i : Nat} {x : It} (h : l[i]? = some x) : (itVs l)[i]? = some (itV x) := by unfold itVs; rw [List.getElem?_map, h]; rfl
theorem join_o (B : Option Addr) (n c : Nat) (its : List It) (w : World) (hn : its.length = n) (hn2 : n ≤ 1100000) (hB : RdC w B (itVs its)) (hok : ∀ i ∈ its, okI i) (hT : TabB w.heap.size w) :
    Calls Tryd.prog 16 #[.slice B n c] w fun e w' => e = .returned (stV (itsB its)) ∧ Below w.heap.size w w' := by
  have HT := Lib.hid hT
  have HBR := Lib.hid hB
  have HOK := Lib.hid hok
  obtain ⟨b, hb⟩ : ∃ b, w.heap.size = b := ⟨_, rfl⟩
  have h0 : BldR b [] (w.alloc (.cells #[.pointer none, .slice none 0 0] 63)) := by rw [← hb]; exact Lib.IsBuilderF.of (Lib.fresh_isBuilder 63 5 w)
  have H0 := Lib.hid h0
  have HB0 := Lib.hid (show Below b w (w.alloc (.cells #[.pointer none, .slice none 0 0] 63)) from (Below.refl b w).alloc (Nat.le_of_eq hb.symm) _)
  clear hT hB hok h0
  go_enter Tryd.func16, Tryd.ntmps16
  go_wp2
  go_loopw [5, 6, 7, 10] (fun _ _ _ x10 wr => ∃ i : Nat, i ≤ n ∧ x10 = .int .i64 (i : Int) ∧ BldR b (itsB (its.take i)) wr ∧ Below b w wr) (fun _ _ _ x10 _ => n - (intOf x10).toNat)
  case atStart => exact ⟨0, Nat.zero_le _, rfl, H0.out, HB0.out⟩
  case round =>
  obtain ⟨i, hi, rfl, hbd, hbw⟩ := hrel
  have hbw0 := hbw
  have hsz := hbw.size
  rw [← hb] at hbw
  have HBD := Lib.hid hbd
  have HBW := Lib.hid hbw0
  have HBL := Lib.hid hbw
  clear hbd hbw hbw0
  by_cases hlt : i < n
  · have z1 : decide ((i : Int) < (n : Int)) = true := decide_eq_true (by omega)
    obtain ⟨x, hx⟩ : ∃ x, its[i]? = some x := ⟨its[i]'(by omega), List.getElem?_eq_getElem _⟩
    obtain ⟨g, o, rfl, hg, c1⟩ := (HBR.out.on HBL.out) i _ (itVs_get hx)
    have ho := HOK.out x (List.mem_of_getElem? hx)
    have HX := Lib.hid (itsB_snoc its i x hx)
    have hlen : (itsB (its.take i)).length ≤ 11000000 := by
      have := itsB_len (its.take i) fun j hj => HOK.out j (List.mem_of_mem_take hj)
      rw [List.length_take] at this
      omega
    obtain ⟨l, hl⟩ : ∃ l, itsB (its.take i) = l := ⟨_, rfl⟩
    rw [hl] at HBD HX hlen
    clear hx hl
    cases x with
    | n x =>
      have ho : 0 ≤ x ∧ x ≤ 2147483647 := ho
      unfold itV at c1
      dsimp only at c1
      have KI := Lib.hid (itoa_o x ho.1 (by omega) wr (HT.out.at_ (Nat.le_refl _) HBL.out).here)
      have dl : (digs x.toNat).length ≤ 20 := digs_max 19 _ (by omega)
      obtain ⟨u, hu⟩ : ∃ u, digs x.toNat = u := ⟨_, rfl⟩
      have HX2 : itsB (its.take (i + 1)) = l ++ u := by rw [HX.out, ← hu]; rfl
      have HX3 := Lib.hid HX2
      rw [hu] at KI dl
      unfold stV at KI
      clear hu HX2
      go_wp2_with fail
      refine KI.out.mono ?_
      rintro e w5 ⟨rfl, hb5⟩
      have KW := Lib.hid (wstr_o b l u w5 (HBD.out.stay hb5) (by omega) (by have := hb5.size; omega))
      have HB5 := Lib.hid (HBW.out.trans (hb5.mono (by omega)))
      clear hb5
      go_wp2_with fail
      refine KW.out.mono ?_
      rintro e w6 ⟨rfl, hr6, hb6⟩
      go_wp2_with fail
      go_roundw
      case rel => exact ⟨i + 1, by omega, by go_num, by rw [HX3.out]; exact hr6, HB5.out.trans hb6⟩
      case measure => simp [intOf]; omega
    | m r =>
      have ho : 0 ≤ r ∧ r ≤ 127 := ho
      unfold itV at c1
      dsimp only at c1
      have KW := Lib.hid (wrune_o b l r wr HBD.out ho.1 ho.2 (by omega) (by omega))
      go_wp2_with fail
      refine KW.out.mono ?_
      rintro e w6 ⟨k6, rfl, hr6, hb6⟩
      go_wp2_with fail
      go_roundw
      case rel => exact ⟨i + 1, by omega, by go_num, by rw [HX.out]; exact hr6, HBW.out.trans hb6⟩
      case measure => simp [intOf]; omega
  obtain rfl : i = n := by omega
  have z1 : decide ((i : Int) < (i : Int)) = false := decide_eq_false (by omega)
  have hbd := HBD.out
  rw [List.take_of_length_le (by omega)] at hbd
  have KS := Lib.hid (bstr_o b (itsB its) wr hbd (by omega))
  clear hbd
  go_wp2_with fail
  refine KS.out.mono ?_
  rintro e w6 ⟨rfl, hb6⟩
  go_wp2_with fail
  go_ret
  exact ⟨rfl, by rw [hb]; exact HBW.out.trans hb6⟩
/-- A record that may be has parts that can be told. -/
theorem eachI_ok {m : Int} (hm : 0 ≤ m ∧ m ≤ 127) {xs : List Int} (h : ∀ x ∈ xs, 0 ≤ x ∧ x ≤ 2147483647) : ∀ i ∈ eachI m xs, okI i := fun i hi => by
  unfold eachI at hi
  obtain ⟨x, hx, hi⟩ := List.mem_flatMap.1 hi
  rcases List.mem_cons.1 hi with rfl | hi
  · exact hm
  · rw [List.mem_singleton.1 hi]; exact h x hx
theorem ptI_ok {t : Tk} (h : mayT t = true) : ∀ i ∈ ptI t, okI i := by
  obtain ⟨h1, h2, h3, h4, h5⟩ := mayT_parts h
  intro i hi
  unfold ptI at hi
  rcases List.mem_append.1 hi with hi | hi
  · unfold whoI at hi
    rcases mayW_in h2 with hw | hw | hw
    · rw [if_neg (by omega), if_neg (by omega)] at hi
      rw [List.mem_singleton.1 hi]; exact ⟨by omega, by omega⟩
    · rw [if_neg (by omega), if_pos hw.1] at hi
      rcases List.mem_cons.1 hi with rfl | hi
      · exact ⟨by omega, by omega⟩
      · rw [List.mem_singleton.1 hi]; exact ⟨by omega, by omega⟩
    · rw [if_pos hw.1] at hi
      rcases List.mem_cons.1 hi with rfl | hi
      · exact ⟨by omega, by omega⟩
      · rw [List.mem_singleton.1 hi]; exact ⟨by omega, by omega⟩
  rcases List.mem_append.1 hi with hi | hi
  · exact eachI_ok ⟨by omega, by omega⟩ (fun x hx => by have := rsI_in _ _ (by omega) h3 x hx; omega) i hi
  rcases List.mem_append.1 hi with hi | hi
  · exact eachI_ok ⟨by omega, by omega⟩ (fun x hx => by have := rsI_in _ _ (by omega) h4 x hx; omega) i hi
  rcases List.mem_append.1 hi with hi | hi
  · exact eachI_ok ⟨by omega, by omega⟩ (fun x hx => by have := rsI_in _ _ (by omega) h5 x hx; omega) i hi
  obtain ⟨f, hf, hi⟩ := List.mem_flatMap.1 hi
  have hm := h1 f hf
  unfold mayF at hm
  simp only [Bool.and_eq_true, Bool.or_eq_true, decide_eq_true_eq] at hm
  unfold ftI at hi
  rcases List.mem_cons.1 hi with rfl | hi
  · exact ⟨by omega, by omega⟩
  rcases List.mem_cons.1 hi with rfl | hi
  · exact ⟨by omega, by omega⟩
  rcases List.mem_cons.1 hi with rfl | hi
  · show 0 ≤ (if f.2.1 = 1 then (100 : Int) else 97) ∧ (if f.2.1 = 1 then (100 : Int) else 97) ≤ 127
    split <;> exact ⟨by omega, by omega⟩
  · rw [List.mem_singleton.1 hi]; exact ⟨by omega, by omega⟩
theorem ttext_o (r : Rec) (w : World) (h : r.At w) (hi : -9223372036854775808 ≤ r.t.who ∧ r.t.who ≤ 9223372036854775807) (hT : TabB w.heap.size w) : Calls Tryd.prog 8 #[.agg r.cells] w fun e w' => e = .returned (stV (txO r.t)) ∧ Below w.heap.size w w' := by
  have hb := (St.begin w).box 27 r.cells
  have hbl : Below w.heap.size w (w.alloc (.cells r.cells 27)) := (Below.refl _ _).alloc (Nat.le_refl _) _
  have KM := Lib.hid (tmay_o r _ (h.on hbl))
  have HP := Lib.hid (fun (w' : World) (hb : Below w.heap.size w w') => parts_o r w' (h.on hb) hi)
  have HT := Lib.hid hT
  have hpl : (ptI r.t).length ≤ 1100000 := by
    have h1 := h.l1; have h2 := h.l2; have h3 := h.l3; have h4 := h.l4
    have m1 := h.m1; have m2 := h.m2; have m3 := h.m3; have m4 := h.m4
    have := whoI_len r.t.who
    unfold ptI
    rw [List.length_append, List.length_append, List.length_append, List.length_append, eachI_len, eachI_len, eachI_len, ftI_len]
    omega
  obtain ⟨a, ha⟩ : ∃ a, w.heap.size = a := ⟨_, rfl⟩
  rw [ha] at hb
  obtain ⟨t, ht⟩ : ∃ t, r.t = t := ⟨_, rfl⟩
  rw [ht] at KM HP hpl ⊢
  unfold Rec.cells at hb KM HP ⊢
  rw [ht] at hb KM HP ⊢
  clear h hi hT ht hbl
  obtain ⟨p0, p1, p2, p3, p4⟩ := (hb.blk 0 rfl).five5
  have HB := Lib.hid hb
  clear hb
  cases hm : mayT t with
  | false =>
    rw [hm] at KM
    have HX := Lib.hid (show txO t = [] from if_neg (by rw [hm]; exact Bool.false_ne_true))
    clear hm
    go_enter Tryd.func8, Tryd.ntmps8
    go_wp2_with (go_at_call 10; refine KM.out.mono ?_; rintro e w5 ⟨rfl, hb5⟩)
    go_ret
    exact ⟨by rw [HX.out]; rfl, (HB.out.stay hb5).below⟩
  | true =>
    rw [hm] at KM
    have HX := Lib.hid (show txO t = itsB (ptI t) by rw [itsB_pt]; exact if_pos hm)
    have HO := Lib.hid (ptI_ok hm)
    clear hm
    go_enter Tryd.func8, Tryd.ntmps8
    go_wp2_with fail
    refine KM.out.mono ?_
    rintro e w5 ⟨rfl, hb5⟩
    have S5 := Lib.hid (HB.out.stay hb5)
    obtain ⟨q0, q1, q2, q3, q4⟩ := (S5.out.blk 0 rfl).five5
    clear p0 p1 p2 p3 p4 hb5
    go_wp2_with fail
    refine (HP.out _ S5.out.below).mono ?_
    rintro e w6 ⟨B6, c6, rfl, k6⟩
    have S6 := Lib.hid (S5.out.join k6)
    have KJ := Lib.hid (join_o B6 (ptI t).length c6 (ptI t) w6 rfl hpl (k6.rdc 0 rfl).1 HO.out (tab_up (HT.out.at_ (Nat.le_refl _) S6.out.below) S6.out.size))
    rw [← HX.out] at KJ
    obtain ⟨N, hN⟩ : ∃ N, (ptI t).length = N := ⟨_, rfl⟩
    rw [hN] at KJ ⊢
    clear k6 hN hpl
    go_wp2_with fail
    refine KJ.out.mono ?_
    rintro e w7 ⟨rfl, hb7⟩
    go_wp2_with fail
    go_ret
    exact ⟨rfl, (S6.out.stay hb7).below⟩
end Go.Proofs.YtlceanlenekanaaDoor
