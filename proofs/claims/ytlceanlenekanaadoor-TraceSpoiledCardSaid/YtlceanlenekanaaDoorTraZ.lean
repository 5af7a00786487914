/- Layer 25: the number that stands at a place of a text. Layer 25: the record of a text, the document's way. Layer 25, plain: the beginnings of a record's text. Layer 25: a text as bytes, one of them turned. Layer 25: the document's Parse, its record in the answer. -/
import Derived.Test.YtlceanlenekanaaDoorTraB
import Derived.Test.YtlceanlenekanaaDoorCalF
import Derived.Test.YtlceanlenekanaaDoorTraP
import Derived.Deep.DeepCutAuto
import Derived.Test.YtlceanlenekanaaDoorTraT
import Derived.Lib.ConvBytes
import Derived.Lib.UnsafeStr
import Derived.Laws.BytesArg
import Derived.Laws.BitsAllLaws
namespace Go.Proofs.YtlceanlenekanaaDoor
open Go.RowKit
section
set_option linter.unusedVariables false
set_option maxRecDepth 100000
set_option maxHeartbeats 4000000
theorem cutB (s : ByteArray) (b e : Nat) : (s.extract b e).data.toList = bt s b (e - b) := by
  show (s.extract b e).data.toList = List.take (e - b) (List.drop b s.data.toList)
  rw [ByteArray.data_extract, Array.toList_extract, List.extract_eq_take_drop]
theorem NoDg.tw {l : List UInt8} (h : NoDg l) : l.takeWhile isDg = [] ∧ l.dropWhile isDg = l := by
  cases l with
  | nil => exact ⟨rfl, rfl⟩
  | cons b r => rw [List.takeWhile_cons, List.dropWhile_cons, h b rfl]; exact ⟨rfl, rfl⟩
theorem tw_eq (l : List UInt8) (k : Nat) (h1 : ∀ b ∈ l.take k, isDg b = true) (h2 : NoDg (l.drop k)) : l.takeWhile isDg = l.take k ∧ l.dropWhile isDg = l.drop k := by
  have e : l = l.take k ++ l.drop k := (List.take_append_drop k l).symm
  obtain ⟨e1, e2⟩ := h2.tw
  constructor
  · conv => lhs; rw [e]
    rw [List.takeWhile_append_of_pos h1, e1, List.append_nil]
  · conv => lhs; rw [e]
    rw [List.dropWhile_append_of_pos h1, e2]
/-- What is told of a number: -1, if there is none. -/
def nuX (o : Option Nat) : Int := match o with | none => -1 | some n => (n : Int)
theorem drop_tw (l : List UInt8) : l.dropWhile isDg = l.drop (l.takeWhile isDg).length := by
  induction l with
  | nil => rfl
  | cons b r ih =>
    rw [List.dropWhile_cons, List.takeWhile_cons]
    cases isDg b with
    | true => exact ih
    | false => rfl
theorem numR_suf (l : List UInt8) : ∃ k, k ≤ l.length ∧ (numR l).2 = l.drop k := by
  unfold numR
  split
  · exact ⟨(l.takeWhile isDg).length, (List.takeWhile_sublist _).length_le, drop_tw l⟩
  · exact ⟨0, Nat.zero_le _, rfl⟩
theorem bt_none (s : ByteArray) (p : Nat) : bt s p 0 = [] := by unfold bt; rw [List.take_zero]
theorem bt_more (s : ByteArray) (p d e : Nat) : bt s p (d + e) = bt s p d ++ bt s (p + d) e := by
  unfold bt
  rw [List.take_add, List.drop_drop]
theorem nuV (s : ByteArray) {b e : Nat} (hb : b ≤ e) (he : e ≤ s.size) (h1 : ∀ c ∈ bt s b (e - b), isDg c = true) (h2 : NoDg (s.data.toList.drop e)) :
    (mayN (bt s b (e - b)) = true → nuX (numR (s.data.toList.drop b)).1 = ((valB (bt s b (e - b)) : Nat) : Int) ∧ s.size - (numR (s.data.toList.drop b)).2.length = e) ∧ (mayN (bt s b (e - b)) = false → nuX (numR (s.data.toList.drop b)).1 = -1 ∧ s.size - (numR (s.data.toList.drop b)).2.length = b) := by
  have hl : s.data.toList.length = s.size := lst_len s
  obtain ⟨e1, e2⟩ := tw_eq (s.data.toList.drop b) (e - b) h1 (by rw [List.drop_drop, show b + (e - b) = e by omega]; exact h2)
  rw [List.drop_drop, show b + (e - b) = e by omega] at e2
  have e3 : (s.data.toList.drop b).takeWhile isDg = bt s b (e - b) := e1
  constructor
  · intro hm
    have : numR (s.data.toList.drop b) = (some (valB (bt s b (e - b))), s.data.toList.drop e) := by unfold numR; rw [e3, if_pos hm, e2]
    rw [this]
    refine ⟨rfl, ?_⟩
    show s.size - (s.data.toList.drop e).length = e
    rw [List.length_drop, hl]; omega
  · intro hm
    have : numR (s.data.toList.drop b) = (none, s.data.toList.drop b) := by unfold numR; rw [e3, if_neg (by rw [hm]; exact Bool.false_ne_true)]
    rw [this]
    refine ⟨rfl, ?_⟩
    show s.size - (s.data.toList.drop b).length = b
    rw [List.length_drop, hl]; omega
theorem rnum25_o (s : ByteArray) (b : Nat) (w : World) (hb : b ≤ s.size) (hs : s.size ≤ 1000000) : Calls Tryd.prog 28 #[.string s, .int .i64 (b : Int)] w fun e w' => e = .returned (.tuple #[.int .i64 (nuX (numR (s.data.toList.drop b)).1), .int .i64 ((s.size - (numR (s.data.toList.drop b)).2.length : Nat) : Int)]) ∧ w = w' := by
  obtain ⟨V, hV⟩ : ∃ V, nuX (numR (s.data.toList.drop b)).1 = V := ⟨_, rfl⟩
  obtain ⟨E, hE⟩ : ∃ E, s.size - (numR (s.data.toList.drop b)).2.length = E := ⟨_, rfl⟩
  have hVE := Lib.hid (fun (e : Nat) (h1 : b ≤ e) (h2 : e ≤ s.size) h3 h4 => nuV s h1 h2 h3 h4)
  rw [hV, hE] at hVE
  rw [hV, hE]
  clear hV hE
  go_enter Tryd.func28, Tryd.ntmps28
  go_wp2
  go_loopw [6] (fun x6 wr => ∃ e : Nat, b ≤ e ∧ e ≤ s.size ∧ (∀ c ∈ bt s b (e - b), isDg c = true) ∧ x6 = .int .i64 (e : Int) ∧ wr = w) (fun x6 _ => s.size - (intOf x6).toNat)
  case atStart => exact ⟨b, Nat.le_refl _, hb, (by rw [Nat.sub_self, bt_none]; exact fun c hc => by cases hc), rfl, rfl⟩
  case round =>
    obtain ⟨pos, hbp, hps, had, rfl, rfl⟩ := hrel
    have HEnd := Lib.hid (fun (hn : NoDg (s.data.toList.drop pos)) => hVE.out pos hbp hps had hn)
    have hsl : ∀ W : World, (Instr.slice 9 (.string s) (some (.int .i64 (b : Int))) (some (.int .i64 (pos : Int))) none).run Tryd.prog W = .ok (.string (s.extract b pos)) W := fun W => by
      have := run_slice_string (P := Tryd.prog) (w := W) 9 s .i64 .i64 (b : Int) (pos : Int) Tryd.underlying9 (by omega) (by omega) (by omega)
      rw [this, show (b : Int).toNat = b by omega, show (pos : Int).toNat = pos by omega]
    have KN := rnumber_o (s.extract b pos) wr
    rw [cutB s b pos] at KN
    have key : NoDg (s.data.toList.drop pos) → (mayN (bt s b (pos - b)) = true ∧ V = ((valB (bt s b (pos - b)) : Nat) : Int) ∧ E = pos ∧ Calls Tryd.prog 38 #[.string (s.extract b pos)] wr fun e w' => e = .returned (.tuple #[.int .i64 V, .bool true]) ∧ wr = w') ∨ (V = -1 ∧ E = b ∧ Calls Tryd.prog 38 #[.string (s.extract b pos)] wr fun e w' => e = .returned (.tuple #[.int .i64 0, .bool false]) ∧ wr = w') := fun hn => by
      obtain ⟨q1, q2⟩ := HEnd.out hn
      cases hm : mayN (bt s b (pos - b)) with
      | true =>
        obtain ⟨v1, v2⟩ := q1 hm
        rw [numV_yes hm, ← v1] at KN
        exact Or.inl ⟨rfl, v1, v2, KN⟩
      | false =>
        obtain ⟨v1, v2⟩ := q2 hm
        rw [numV_no hm] at KN
        exact Or.inr ⟨v1, v2, KN⟩
    clear KN HEnd
    by_cases hp : pos < s.size
    · have z0 : decide ((pos : Int) < (s.size : Int)) = true := decide_eq_true (by omega)
      have eg : s.get! pos = s[pos]'hp := get_bang s hp
      have hdr : s.data.toList.drop pos = (s[pos]'hp) :: s.data.toList.drop (pos + 1) := by
        rw [List.drop_eq_getElem_cons (by rw [lst_len]; exact hp)]
        congr 1
      by_cases hd : isDg (s[pos]'hp) = true
      · have hd2 := of_decide_eq_true hd
        have z1 : decide ((48 : Int) ≤ (((s[pos]'hp).toNat : Nat) : Int)) = true := decide_eq_true (by omega)
        have z2 : decide ((((s[pos]'hp).toNat : Nat) : Int) ≤ 57) = true := decide_eq_true (by omega)
        clear key hdr
        go_wp2
        go_roundw
        case rel => exact ⟨pos + 1, by omega, by omega, by
          rw [show pos + 1 - b = (pos - b) + 1 by omega]
          intro c hc
          rw [bt_more, bt_one s (by omega), show b + (pos - b) = pos by omega, eg] at hc
          rcases List.mem_append.1 hc with hc | hc
          · exact had c hc
          · rw [List.mem_singleton.1 hc]; exact hd, by go_num, by first | trivial | rfl⟩
        case measure => simp [intOf]; omega
      · have hn : NoDg (s.data.toList.drop pos) := by rw [hdr]; exact NoDg.cons (by simpa using hd)
        have key2 := key hn
        clear key
        have dd : (decide ((48 : Int) ≤ (((s[pos]'hp).toNat : Nat) : Int)) = false) ∨ (decide ((48 : Int) ≤ (((s[pos]'hp).toNat : Nat) : Int)) = true ∧ decide ((((s[pos]'hp).toNat : Nat) : Int) ≤ 57) = false) := by
          by_cases h1 : 48 ≤ (s[pos]'hp).toNat
          · by_cases h2 : (s[pos]'hp).toNat ≤ 57
            · exact absurd (decide_eq_true ⟨h1, h2⟩) hd
            · exact Or.inr ⟨decide_eq_true (by omega), decide_eq_false (by omega)⟩
          · exact Or.inl (decide_eq_false (by omega))
        clear hdr hn hd
        rcases key2 with ⟨hm1, hm2, hEp, KN⟩ | ⟨hVm, hEb, KN⟩
        · clear hm1 hm2
          subst hEp
          replace KN := Lib.hid KN
          rcases dd with z1 | ⟨z1, z2⟩ <;> (
            go_wp2_with (first | (go_at_call 38; refine KN.out.mono ?_; rintro e w2 ⟨rfl, rfl⟩) | fail)
            go_ret2
            exact ⟨rfl, rfl⟩)
        · subst hVm hEb
          replace KN := Lib.hid KN
          rcases dd with z1 | ⟨z1, z2⟩ <;> (
            go_wp2_with (first | (go_at_call 38; refine KN.out.mono ?_; rintro e w2 ⟨rfl, rfl⟩) | fail)
            go_ret2
            exact ⟨rfl, rfl⟩)
    · obtain rfl : pos = s.size := by omega
      have z0 : decide ((s.size : Int) < (s.size : Int)) = false := decide_eq_false (by omega)
      have hn : NoDg (s.data.toList.drop s.size) := by rw [← lst_len, List.drop_length]; exact NoDg.nil
      have key2 := key hn
      clear key hn
      rcases key2 with ⟨hm1, hm2, hEp, KN⟩ | ⟨hVm, hEb, KN⟩
      · clear hm1 hm2
        subst hEp
        replace KN := Lib.hid KN
        go_wp2_with (first | (go_at_call 38; refine KN.out.mono ?_; rintro e w2 ⟨rfl, rfl⟩) | fail)
        go_ret2
        exact ⟨rfl, rfl⟩
      · subst hVm hEb
        replace KN := Lib.hid KN
        go_wp2_with (first | (go_at_call 38; refine KN.out.mono ?_; rintro e w2 ⟨rfl, rfl⟩) | fail)
        go_ret2
        exact ⟨rfl, rfl⟩
end
section
set_option linter.unusedVariables false
set_option maxRecDepth 100000
set_option maxHeartbeats 4000000
theorem suf25 (l : List UInt8) {p : Nat} (hp : p ≤ l.length) : (numR (l.drop p)).2 = l.drop (l.length - (numR (l.drop p)).2.length) ∧ p ≤ l.length - (numR (l.drop p)).2.length ∧ l.length - (numR (l.drop p)).2.length ≤ l.length := by
  obtain ⟨k, hk, e⟩ := numR_suf (l.drop p)
  rw [List.length_drop] at hk
  rw [e, List.drop_drop, List.length_drop, show l.length - (l.length - (p + k)) = p + k by omega]
  exact ⟨rfl, by omega, by omega⟩
theorem numR_bd {l : List UInt8} {n : Nat} (h : (numR l).1 = some n) : n ≤ 2147483647 := by
  unfold numR at h
  split at h
  · next hm =>
    injection h with h
    unfold mayN at hm
    simp only [Bool.and_eq_true, decide_eq_true_eq] at hm
    omega
  · cases h
theorem chk_none (u : List UInt8) : chkB u none = none := rfl
theorem chk_some (u : List UInt8) (t : Tk) : chkB u (some t) = if txO t = u then some t else none := rfl
theorem u8_eq {c : UInt8} (k : Nat) (hk : k < 256) : (((c.toNat : Nat) : Int) == (k : Int)) = decide (c = UInt8.ofNat k) := by
  by_cases h : c = UInt8.ofNat k
  · subst h
    rw [decide_eq_true rfl, UInt8.toNat_ofNat', Nat.mod_eq_of_lt (by simpa using hk)]
    exact beq_self_eq_true _
  · rw [decide_eq_false h]
    refine beq_eq_false_iff_ne.2 fun e => h ?_
    have e2 : c.toNat = k := by omega
    rw [← e2]; simp
theorem u8_ne {c : UInt8} (k : Nat) (hk : k < 256) (h : c ≠ UInt8.ofNat k) : (((c.toNat : Nat) : Int) == (k : Int)) = false := by rw [u8_eq k hk]; exact decide_eq_false h

theorem rparse25_o (s : ByteArray) (u : List UInt8) (w : World) (hsu : s = ⟨u.toArray⟩) (hs : u.length ≤ 100000) : Calls Tryd.prog 14 #[.string s] w fun e w' => (rfB u = none ∧ e = .returned (.tuple #[.agg zTk, .int .i64 9]) ∧ St w None w' []) ∨ ∃ t B1 B2 B3 B4 n1 n2 n3 n4 c1 c2 c3 c4, rfB u = some t ∧ TkN t n1 n2 n3 n4 ∧ (n1 ≤ 100000 ∧ n2 ≤ 100000 ∧ n3 ≤ 100000 ∧ n4 ≤ 100000) ∧ e = .returned (.tuple #[tkV t B1 B2 B3 B4 n1 n2 n3 n4 c1 c2 c3 c4, .int .i64 0]) ∧ St w None w' (TkM t B1 B2 B3 B4 n1 n2 n3 n4 c1 c2 c3 c4) := by
  obtain ⟨iI, hiI, hzI, hsI, hbI⟩ := info3c YtlceanlenekanaaDooriI
  obtain ⟨iF, hiF, hzF, hsF, hbF⟩ := info3c YtlceanlenekanaaDooriF
  obtain ⟨a, ha⟩ : ∃ a, w.heap.size = a := ⟨_, rfl⟩
  have s0 := (St.begin w).box 27 #[.int .i64 0, .slice none 0 0, .slice none 0 0, .slice none 0 0, .slice none 0 0]
  rw [ha] at s0
  have hul : s.data.toList = u := by rw [hsu]
  have hsz : s.size = u.length := by rw [← hul, lst_len]
  cases u with
  | nil =>
    subst hsu
    have S3 := Lib.hid s0
    have fa := (s0.blk 0 rfl).frozen
    obtain ⟨a0, a1, a2, a3, a4⟩ := (s0.blk 0 rfl).five5
    clear s0
    go_enter Tryd.func14, Tryd.ntmps14
    go_wp2_with fail
    (try simp only [Exit.inBlock, Exit.then])
    refine bodyPost_ret (v := .tuple #[.agg zTk, .int .i64 9]) ?_ rfl (Or.inl ⟨rfl, rfl, S3.out.take 0⟩)
    simp [results, go_sem, zTk, a0, a1, a2, a3, a4]
  | cons d u' =>
  have hne := lit_ne (s := s) (l := []) (by rw [hul]; exact fun h => by cases h)
  have h0 : 0 < s.size := by rw [hsz, List.length_cons]; omega
  have hd0 : s[0]'h0 = d := by
    have e : s.data.toList[0]? = some d := by rw [hul]; rfl
    have : s.data.toList[0]? = some (s[0]'h0) := by
      rw [List.getElem?_eq_getElem (by rw [lst_len]; exact h0)]
      congr 1
    rw [this] at e
    injection e
  obtain ⟨P, hP⟩ : ∃ P, rfB (d :: u') = P := ⟨_, rfl⟩
  have HPP := Lib.hid (hP.symm.trans (rfB_cons d u'))
  rw [hP]
  clear hP
  obtain ⟨u, hu⟩ : ∃ u, d :: u' = u := ⟨_, rfl⟩
  have hu1 : u' = u.drop 1 := by rw [← hu]; rfl
  rw [hu] at hsu hs hul hsz HPP
  rw [hu1] at HPP
  clear hu hu1
  have hsz0 : (w.alloc (.cells #[.int .i64 0, .slice none 0 0, .slice none 0 0, .slice none 0 0, .slice none 0 0] 27)).heap.size = a + 1 := by simp [ha]
  have SX := Lib.hid (show ∀ x : Int, St w None ((w.alloc (.cells #[.int .i64 0, .slice none 0 0, .slice none 0 0, .slice none 0 0, .slice none 0 0] 27)).alloc (.cells #[.int .i64 x, .slice none 0 0, .slice none 0 0, .slice none 0 0, .slice none 0 0] 27)) (TkL (a + 1) { tk0 with who := x } none none none none 0 0 0 0 0 0 0 0 ++ [BlkR a 27 #[.int .i64 0, .slice none 0 0, .slice none 0 0, .slice none 0 0, .slice none 0 0]]) from fun x => by
    have s1 := s0.box 27 #[.int .i64 x, .slice none 0 0, .slice none 0 0, .slice none 0 0, .slice none 0 0]
    rw [hsz0] at s1
    exact St.comm (A := [BlkR a 27 #[.int .i64 0, .slice none 0 0, .slice none 0 0, .slice none 0 0, .slice none 0 0]]) ((((s1.lis_nil 3 1).lis_nil 3 1).lis_nil 3 1).lis_nil 36 3))
  have HSU := Lib.hid hsu
  have HUL := Lib.hid hul
  have KN := Lib.hid (fun (b : Nat) (w : World) (hb : b ≤ s.size) => by have := rnum25_o s b w hb (by omega); rw [hul] at this; exact this)
  have KN1 := fun (w : World) => KN.out 1 w (by omega)
  simp only [show (((1 : Nat)) : Int) = 1 from rfl] at KN1
  obtain ⟨f2, f3, f4⟩ := suf25 u (p := 1) (by omega)
  obtain ⟨E, hE⟩ : ∃ E, s.size - (numR (u.drop 1)).2.length = E := ⟨_, rfl⟩
  rw [← hsz, hE] at f2 f3 f4
  rw [hE] at KN1
  obtain ⟨V, hV⟩ : ∃ V, nuX (numR (u.drop 1)).1 = V := ⟨_, rfl⟩
  rw [hV] at KN1
  have hV2 : -1 ≤ V ∧ V ≤ 2147483647 := by
    rw [← hV]
    cases e : (numR (u.drop 1)).1 with
    | none => exact ⟨by decide, by decide⟩
    | some n => have := numR_bd e; show -1 ≤ (n : Int) ∧ (n : Int) ≤ _; omega
  replace KN1 := Lib.hid KN1
  have y116 := u8_eq (c := s[0]'h0) 116 (by decide)
  have y115 := u8_eq (c := s[0]'h0) 115 (by decide)
  have HW : RowKit.Hid (P = chkB u (rfA (rfW (s[0]'h0) (u.drop 1)).2 { tk0 with who := (rfW (s[0]'h0) (u.drop 1)).1 })) := Lib.hid (by rw [hd0]; exact HPP.out)
  clear s0 hsu hul hd0 HPP hsz0
  have hw3 : ((((s[0]'h0).toNat : Int) == 116) = true ∧ (((s[0]'h0).toNat : Int) == 115) = false ∧ P = chkB u (rfA (u.drop E) { tk0 with who := V })) ∨ ((((s[0]'h0).toNat : Int) == 116) = false ∧ (((s[0]'h0).toNat : Int) == 115) = true ∧ P = chkB u (rfA (u.drop E) { tk0 with who := 100 + V })) ∨ ((((s[0]'h0).toNat : Int) == 116) = false ∧ (((s[0]'h0).toNat : Int) == 115) = false ∧ P = chkB u (rfA (u.drop 1) { tk0 with who := -1 })) := by
    by_cases h116 : s[0]'h0 = 116
    · exact Or.inl ⟨by rw [h116]; rfl, by rw [h116]; rfl, by rw [HW.out, h116, ← f2, ← hV]; rfl⟩
    by_cases h115 : s[0]'h0 = 115
    · exact Or.inr (Or.inl ⟨by rw [h115]; rfl, by rw [h115]; rfl, by rw [HW.out, h115, ← f2, ← hV]; rfl⟩)
    · exact Or.inr (Or.inr ⟨u8_ne 116 (by decide) h116, u8_ne 115 (by decide) h115, by rw [HW.out]; unfold rfW; rw [if_neg h116, if_neg h115]⟩)
  clear y116 y115 HW f2 hV
  go_enter Tryd.func14, Tryd.ntmps14
  rcases hw3 with ⟨z1, z2, hPP⟩ | ⟨z1, z2, hPP⟩ | ⟨z1, z2, hPP⟩ <;> (
    have HPP := Lib.hid hPP
    clear hPP
    go_wp2_with (first | (go_at_call 28; refine (KN1.out _).mono ?_; rintro e w2 ⟨rfl, rfl⟩) | fail)
    clear z1 z2
    go_loopw [5, 8, 9, 10, 11, 12] (fun x5 _ _ _ _ _ wr => ∃ (pos : Nat) (t : Tk) (B1 B2 B3 B4 : Option Addr) (n1 n2 n3 n4 c1 c2 c3 c4 : Nat), 1 ≤ pos ∧ pos ≤ s.size ∧ x5 = .int .i64 (pos : Int) ∧ P = chkB u (rfA (u.drop pos) t) ∧ TkN t n1 n2 n3 n4 ∧ whoOk t ∧ (n1 < pos ∧ n2 < pos ∧ n3 < pos ∧ n4 < pos) ∧ St w None wr (TkL (a + 1) t B1 B2 B3 B4 n1 n2 n3 n4 c1 c2 c3 c4 ++ [BlkR a 27 #[.int .i64 0, .slice none 0 0, .slice none 0 0, .slice none 0 0, .slice none 0 0]])) (fun x5 _ _ _ _ _ _ => s.size - (intOf x5).toNat)
    case atStart => first
      | exact ⟨E, { tk0 with who := V }, none, none, none, none, 0, 0, 0, 0, 0, 0, 0, 0, f3, f4, rfl, HPP.out, ⟨rfl, rfl, rfl, rfl⟩, ⟨by dsimp only; omega, by dsimp only; omega⟩, ⟨by omega, by omega, by omega, by omega⟩, SX.out _⟩
      | exact ⟨E, { tk0 with who := 100 + V }, none, none, none, none, 0, 0, 0, 0, 0, 0, 0, 0, f3, f4, rfl, HPP.out, ⟨rfl, rfl, rfl, rfl⟩, ⟨by dsimp only; omega, by dsimp only; omega⟩, ⟨by omega, by omega, by omega, by omega⟩, SX.out _⟩
      | exact ⟨1, { tk0 with who := -1 }, none, none, none, none, 0, 0, 0, 0, 0, 0, 0, 0, Nat.le_refl _, h0, rfl, HPP.out, ⟨rfl, rfl, rfl, rfl⟩, ⟨by dsimp only; omega, by dsimp only; omega⟩, ⟨by omega, by omega, by omega, by omega⟩, SX.out _⟩
    case round =>
    obtain ⟨pos, t, B1, B2, B3, B4, n1, n2, n3, n4, c1, c2, c3, c4, h1, h2, rfl, hP, hN, hw, hk, hst⟩ := hrel
    clear HPP SX
    obtain ⟨a0, a1, a2, a3, a4⟩ := (hst.blk 5 rfl).five5
    have fa := (hst.blk 5 rfl).frozen
    obtain ⟨p0, p1, p2, p3, p4⟩ := (hst.blk 0 rfl).five5
    have fp := (hst.blk 0 rfl).frozen
    have HST := Lib.hid hst
    have HN := Lib.hid hN
    have HWO := Lib.hid hw
    have hwho2 := hw
    unfold whoOk at hwho2
    clear hst hN hw
    by_cases hp : pos < s.size
    rotate_left 1
    · obtain rfl : pos = s.size := by omega
      have z0 : decide ((s.size : Int) < (s.size : Int)) = false := decide_eq_false (by omega)
      have hPs : P = if txO t = u then some t else none := by rw [hP, hsz, List.drop_length, rfA_nil, chk_some]
      have hAt := HST.out.recAt (t := t) 1 rfl rfl rfl rfl HN.out ⟨by omega, by omega, by omega, by omega⟩
      have KT := rtext25_o _ _ hAt
      unfold stV Rec.cells at KT
      dsimp only at KT
      replace KT := Lib.hid KT
      obtain rfl := HSU.out
      clear hAt hP
      by_cases he : txO t = u
      · have y1 : (u == u) = true := beq_self_eq_true u
        have y2 : (u != u) = false := bne_self_eq_false u
        rw [he] at KT
        have HM := Lib.hid (show P = some t by rw [hPs, if_pos he])
        clear he hPs
        go_wp2_with (first | (go_at_call 9; refine KT.out.mono ?_; rintro e w5 ⟨rfl, hb5⟩; have S5 := Lib.hid (HST.out.stay hb5); clear hb5; have fa := (S5.out.blk 5 rfl).frozen; obtain ⟨a0, a1, a2, a3, a4⟩ := (S5.out.blk 5 rfl).five5; have fd := (S5.out.blk 0 rfl).frozen; obtain ⟨d0, d1, d2, d3, d4⟩ := (S5.out.blk 0 rfl).five5) | fail)
        (try simp only [Exit.inBlock, Exit.then])
        have s6 := ((((S5.out.set_ 5 rfl 0 (.int .i64 t.who)).set_ 5 rfl 1 (.slice B1 n1 c1)).set_ 5 rfl 2 (.slice B2 n2 c2)).set_ 5 rfl 3 (.slice B3 n3 c3)).set_ 5 rfl 4 (.slice B4 n4 c4)
        have s7 := (s6.drop 0 (Nat.zero_lt_succ _)).take 4
        refine bodyPost_ret (v := .tuple #[tkV t B1 B2 B3 B4 n1 n2 n3 n4 c1 c2 c3 c4, .int .i64 0]) ?_ rfl (Or.inr ⟨t, B1, B2, B3, B4, n1, n2, n3, n4, c1, c2, c3, c4, HM.out, HN.out, ⟨by omega, by omega, by omega, by omega⟩, rfl, s7⟩)
        obtain ⟨q0, q1, q2, q3, q4⟩ := (s6.blk 5 rfl).five5
        simp [results, go_sem, tkV, q0, q1, q2, q3, q4]
      · have y2 : (txO t != u) = true := bne_iff_ne.2 he
        have y1 : (txO t == u) = false := beq_eq_false_iff_ne.2 he
        have HM := Lib.hid (show P = none by rw [hPs, if_neg he])
        clear he hPs
        go_wp2_with (first | (go_at_call 9; refine KT.out.mono ?_; rintro e w5 ⟨rfl, hb5⟩; have S5 := Lib.hid (HST.out.stay hb5); clear hb5; have fa := (S5.out.blk 5 rfl).frozen; obtain ⟨a0, a1, a2, a3, a4⟩ := (S5.out.blk 5 rfl).five5; have fd := (S5.out.blk 0 rfl).frozen; obtain ⟨d0, d1, d2, d3, d4⟩ := (S5.out.blk 0 rfl).five5) | fail)
        (try simp only [Exit.inBlock, Exit.then])
        have s6 := ((((S5.out.set_ 5 rfl 0 (.int .i64 0)).set_ 5 rfl 1 (.slice none 0 0)).set_ 5 rfl 2 (.slice none 0 0)).set_ 5 rfl 3 (.slice none 0 0)).set_ 5 rfl 4 (.slice none 0 0)
        refine bodyPost_ret (v := .tuple #[.agg zTk, .int .i64 9]) ?_ rfl (Or.inl ⟨HM.out, rfl, s6.take 0⟩)
        obtain ⟨q0, q1, q2, q3, q4⟩ := (s6.blk 5 rfl).five5
        simp [results, go_sem, zTk, q0, q1, q2, q3, q4]
    have z0 : decide ((pos : Int) < (s.size : Int)) = true := decide_eq_true (by omega)
    obtain ⟨g2, g3, g4⟩ := suf25 u (p := pos + 1) (by omega)
    have KP := KN.out (pos + 1) wr (by omega)
    obtain ⟨E2, hE2⟩ : ∃ E2, s.size - (numR (u.drop (pos + 1))).2.length = E2 := ⟨_, rfl⟩
    rw [← hsz, hE2] at g2 g3 g4
    rw [hE2, show (((pos + 1 : Nat)) : Int) = (pos : Int) + 1 from by omega] at KP
    have hdr : u.drop pos = (s[pos]'hp) :: u.drop (pos + 1) := by
      have := HUL.out
      subst this
      rw [List.drop_eq_getElem_cons (by rw [lst_len]; exact hp)]
      congr 1
    rw [hdr] at hP
    clear hdr hE2
    cases hn : (numR (u.drop (pos + 1))).1 with
    | none =>
      rw [hn] at KP
      have HM := Lib.hid (show P = none by rw [hP, rfA_none _ hn]; rfl)
      replace KP : RowKit.Hid (Calls Tryd.prog 28 #[.string s, .int .i64 ((pos : Int) + 1)] wr fun e w' => e = .returned (.tuple #[.int .i64 (-1), .int .i64 (E2 : Int)]) ∧ wr = w') := Lib.hid KP
      clear hP g2 hn
      go_wp2_with fail
      refine KP.out.mono ?_
      rintro e w2 ⟨rfl, rfl⟩
      go_wp2_with fail
      (try simp only [Exit.inBlock, Exit.then])
      have s6 := ((((HST.out.set_ 5 rfl 0 (.int .i64 0)).set_ 5 rfl 1 (.slice none 0 0)).set_ 5 rfl 2 (.slice none 0 0)).set_ 5 rfl 3 (.slice none 0 0)).set_ 5 rfl 4 (.slice none 0 0)
      refine bodyPost_ret (v := .tuple #[.agg zTk, .int .i64 9]) ?_ rfl (Or.inl ⟨HM.out, rfl, s6.take 0⟩)
      obtain ⟨q0, q1, q2, q3, q4⟩ := (s6.blk 5 rfl).five5
      simp [results, go_sem, zTk, q0, q1, q2, q3, q4]
    | some n =>
      rw [hn] at KP
      have hnb := numR_bd hn
      rw [rfA_some t hn, g2] at hP
      replace KP : RowKit.Hid (Calls Tryd.prog 28 #[.string s, .int .i64 ((pos : Int) + 1)] wr fun e w' => e = .returned (.tuple #[.int .i64 (n : Int), .int .i64 (E2 : Int)]) ∧ wr = w') := Lib.hid KP
      have zn : decide ((n : Int) < 0) = false := decide_eq_false (by omega)
      have y43 := u8_eq (c := s[pos]'hp) 43 (by decide)
      have y47 := u8_eq (c := s[pos]'hp) 47 (by decide)
      have y33 := u8_eq (c := s[pos]'hp) 33 (by decide)
      have y61 := u8_eq (c := s[pos]'hp) 61 (by decide)
      obtain ⟨c, hc⟩ : ∃ c, s[pos]'hp = c := ⟨_, rfl⟩
      rw [hc] at hP
      clear g2 hn
      by_cases h43 : c = 43
      · rw [if_pos h43] at hP
        have z43 : (((s[pos]'hp).toNat : Int) == 43) = true := by rw [hc, h43]; rfl
        have HP := Lib.hid hP
        have e1 := cell_alloc p1 (.cells #[.int .i64 (n : Int)] 3)
        have S3 := Lib.hid (HST.out.alloc (.cells #[.int .i64 (n : Int)] 3))
        have HL := Lib.hid (S3.out.lis 1 rfl)
        have RB := Lib.hid (rds_box wr 3 (.int .i64 (n : Int)))
        clear hP y43 y47 y33 y61
        go_wp2_with fail
        refine KP.out.mono ?_
        rintro e w2 ⟨rfl, rfl⟩
        go_wp2_with (first | (at_builtin; refine wpList_lis rfl (.tmp 64) (.tmp 66) 22 rfl 3 iI (.int .i64 0) 1 8 Tryd.underlying22 hiI hzI hsI hbI rfl (by decide) _ _ _ rfl HL.out _ 1 1 [.int .i64 (n : Int)] rfl RB.out (by simp [Value.oneCell']) (by unfold maxLen; omega) (by omega) ?_; intro B6 c6 w6 hl hg hat; have s5 := S3.out.lis_put 1 rfl hl hg hat; have f5 := (s5.blk 0 rfl).frozen; have q5 := (s5.blk 0 rfl).five5.2.1; have X6 := Lib.hid (s5.set_ 0 rfl 1 (.slice B6 (n1 + 1) c6)); clear s5 hl hg hat) | fail)
        go_roundw
        case rel => exact ⟨E2, { t with dn := t.dn ++ [(n : Int)] }, B6, B2, B3, B4, n1 + 1, n2, n3, n4, c6, c2, c3, c4, by omega, by omega, rfl, HP.out, ⟨len_snoc _ (HN.out.1), HN.out.2.1, HN.out.2.2.1, HN.out.2.2.2⟩, HWO.out, ⟨by omega, by omega, by omega, by omega⟩, by (try unfold TkL); dsimp only; rw [ivI_snoc]; exact X6.out⟩
        case measure => simp [intOf]; omega
      by_cases h47 : c = 47
      · rw [if_neg h43, if_pos h47] at hP
        have z43 : (((s[pos]'hp).toNat : Int) == 43) = false := by rw [hc]; exact u8_ne 43 (by decide) h43
        have x43 : ((c.toNat : Int) == 43) = false := u8_ne 43 (by decide) h43
        have z47 : (((s[pos]'hp).toNat : Int) == 47) = true := by rw [hc, h47]; rfl
        have HP := Lib.hid hP
        have e1 := cell_alloc p2 (.cells #[.int .i64 (n : Int)] 3)
        have S3 := Lib.hid (HST.out.alloc (.cells #[.int .i64 (n : Int)] 3))
        have HL := Lib.hid (S3.out.lis 2 rfl)
        have RB := Lib.hid (rds_box wr 3 (.int .i64 (n : Int)))
        clear hP y43 y47 y33 y61
        go_wp2_with fail
        refine KP.out.mono ?_
        rintro e w2 ⟨rfl, rfl⟩
        go_wp2_with (first | (at_builtin; refine wpList_lis rfl (.tmp 74) (.tmp 76) 22 rfl 3 iI (.int .i64 0) 1 8 Tryd.underlying22 hiI hzI hsI hbI rfl (by decide) _ _ _ rfl HL.out _ 1 1 [.int .i64 (n : Int)] rfl RB.out (by simp [Value.oneCell']) (by unfold maxLen; omega) (by omega) ?_; intro B6 c6 w6 hl hg hat; have s5 := S3.out.lis_put 2 rfl hl hg hat; have f5 := (s5.blk 0 rfl).frozen; have q5 := (s5.blk 0 rfl).five5.2.2.1; have X6 := Lib.hid (s5.set_ 0 rfl 2 (.slice B6 (n2 + 1) c6)); clear s5 hl hg hat) | fail)
        go_roundw
        case rel => exact ⟨E2, { t with ct := t.ct ++ [(n : Int)] }, B1, B6, B3, B4, n1, n2 + 1, n3, n4, c1, c6, c3, c4, by omega, by omega, rfl, HP.out, ⟨HN.out.1, len_snoc _ (HN.out.2.1), HN.out.2.2.1, HN.out.2.2.2⟩, HWO.out, ⟨by omega, by omega, by omega, by omega⟩, by (try unfold TkL); dsimp only; rw [ivI_snoc]; exact X6.out⟩
        case measure => simp [intOf]; omega
      by_cases h33 : c = 33
      · rw [if_neg h43, if_neg h47, if_pos h33] at hP
        have z43 : (((s[pos]'hp).toNat : Int) == 43) = false := by rw [hc]; exact u8_ne 43 (by decide) h43
        have x43 : ((c.toNat : Int) == 43) = false := u8_ne 43 (by decide) h43
        have z47 : (((s[pos]'hp).toNat : Int) == 47) = false := by rw [hc]; exact u8_ne 47 (by decide) h47
        have x47 : ((c.toNat : Int) == 47) = false := u8_ne 47 (by decide) h47
        have z33 : (((s[pos]'hp).toNat : Int) == 33) = true := by rw [hc, h33]; rfl
        have HP := Lib.hid hP
        have e1 := cell_alloc p3 (.cells #[.int .i64 (n : Int)] 3)
        have S3 := Lib.hid (HST.out.alloc (.cells #[.int .i64 (n : Int)] 3))
        have HL := Lib.hid (S3.out.lis 3 rfl)
        have RB := Lib.hid (rds_box wr 3 (.int .i64 (n : Int)))
        clear hP y43 y47 y33 y61
        go_wp2_with fail
        refine KP.out.mono ?_
        rintro e w2 ⟨rfl, rfl⟩
        go_wp2_with (first | (at_builtin; refine wpList_lis rfl (.tmp 84) (.tmp 86) 22 rfl 3 iI (.int .i64 0) 1 8 Tryd.underlying22 hiI hzI hsI hbI rfl (by decide) _ _ _ rfl HL.out _ 1 1 [.int .i64 (n : Int)] rfl RB.out (by simp [Value.oneCell']) (by unfold maxLen; omega) (by omega) ?_; intro B6 c6 w6 hl hg hat; have s5 := S3.out.lis_put 3 rfl hl hg hat; have f5 := (s5.blk 0 rfl).frozen; have q5 := (s5.blk 0 rfl).five5.2.2.2.1; have X6 := Lib.hid (s5.set_ 0 rfl 3 (.slice B6 (n3 + 1) c6)); clear s5 hl hg hat) | fail)
        go_roundw
        case rel => exact ⟨E2, { t with ms := t.ms ++ [(n : Int)] }, B1, B2, B6, B4, n1, n2, n3 + 1, n4, c1, c2, c6, c4, by omega, by omega, rfl, HP.out, ⟨HN.out.1, HN.out.2.1, len_snoc _ (HN.out.2.2.1), HN.out.2.2.2⟩, HWO.out, ⟨by omega, by omega, by omega, by omega⟩, by (try unfold TkL); dsimp only; rw [ivI_snoc]; exact X6.out⟩
        case measure => simp [intOf]; omega
      by_cases h61 : c = 61
      rotate_left 1
      · have HM := Lib.hid (show P = none by rw [hP, if_neg h43, if_neg h47, if_neg h33, if_neg h61]; rfl)
        have z43 : (((s[pos]'hp).toNat : Int) == 43) = false := by rw [hc]; exact u8_ne 43 (by decide) h43
        have x43 : ((c.toNat : Int) == 43) = false := u8_ne 43 (by decide) h43
        have z47 : (((s[pos]'hp).toNat : Int) == 47) = false := by rw [hc]; exact u8_ne 47 (by decide) h47
        have x47 : ((c.toNat : Int) == 47) = false := u8_ne 47 (by decide) h47
        have z33 : (((s[pos]'hp).toNat : Int) == 33) = false := by rw [hc]; exact u8_ne 33 (by decide) h33
        have x33 : ((c.toNat : Int) == 33) = false := u8_ne 33 (by decide) h33
        have z61 : (((s[pos]'hp).toNat : Int) == 61) = false := by rw [hc]; exact u8_ne 61 (by decide) h61
        have x61 : ((c.toNat : Int) == 61) = false := u8_ne 61 (by decide) h61
        clear hP y43 y47 y33 y61
        go_wp2_with fail
        refine KP.out.mono ?_
        rintro e w2 ⟨rfl, rfl⟩
        go_wp2_with fail
        (try simp only [Exit.inBlock, Exit.then])
        have s6 := ((((HST.out.set_ 5 rfl 0 (.int .i64 0)).set_ 5 rfl 1 (.slice none 0 0)).set_ 5 rfl 2 (.slice none 0 0)).set_ 5 rfl 3 (.slice none 0 0)).set_ 5 rfl 4 (.slice none 0 0)
        refine bodyPost_ret (v := .tuple #[.agg zTk, .int .i64 9]) ?_ rfl (Or.inl ⟨HM.out, rfl, s6.take 0⟩)
        obtain ⟨q0, q1, q2, q3, q4⟩ := (s6.blk 5 rfl).five5
        simp [results, go_sem, zTk, q0, q1, q2, q3, q4]
      rw [if_neg h43, if_neg h47, if_neg h33, if_pos h61] at hP
      have z43 : (((s[pos]'hp).toNat : Int) == 43) = false := by rw [hc]; exact u8_ne 43 (by decide) h43
      have x43 : ((c.toNat : Int) == 43) = false := u8_ne 43 (by decide) h43
      have z47 : (((s[pos]'hp).toNat : Int) == 47) = false := by rw [hc]; exact u8_ne 47 (by decide) h47
      have x47 : ((c.toNat : Int) == 47) = false := u8_ne 47 (by decide) h47
      have z33 : (((s[pos]'hp).toNat : Int) == 33) = false := by rw [hc]; exact u8_ne 33 (by decide) h33
      have x33 : ((c.toNat : Int) == 33) = false := u8_ne 33 (by decide) h33
      have z61 : (((s[pos]'hp).toNat : Int) == 61) = true := by rw [hc, h61]; rfl
      clear y43 y47 y33 y61
      by_cases hE2 : E2 < s.size
      rotate_left 1
      · obtain rfl : E2 = s.size := by omega
        rw [hsz, List.drop_length] at hP
        have HM := Lib.hid (show P = none from hP)
        have zE : decide ((s.size : Int) ≤ (s.size : Int)) = true := decide_eq_true (by omega)
        clear hP
        go_wp2_with fail
        refine KP.out.mono ?_
        rintro e w2 ⟨rfl, rfl⟩
        go_wp2_with fail
        (try simp only [Exit.inBlock, Exit.then])
        have s6 := ((((HST.out.set_ 5 rfl 0 (.int .i64 0)).set_ 5 rfl 1 (.slice none 0 0)).set_ 5 rfl 2 (.slice none 0 0)).set_ 5 rfl 3 (.slice none 0 0)).set_ 5 rfl 4 (.slice none 0 0)
        refine bodyPost_ret (v := .tuple #[.agg zTk, .int .i64 9]) ?_ rfl (Or.inl ⟨HM.out, rfl, s6.take 0⟩)
        obtain ⟨q0, q1, q2, q3, q4⟩ := (s6.blk 5 rfl).five5
        simp [results, go_sem, zTk, q0, q1, q2, q3, q4]
      have zE : decide ((s.size : Int) ≤ (E2 : Int)) = false := decide_eq_false (by omega)
      obtain ⟨k2, k3, k4⟩ := suf25 u (p := E2 + 1) (by omega)
      have KQ := KN.out (E2 + 1) wr (by omega)
      obtain ⟨E3, hE3⟩ : ∃ E3, s.size - (numR (u.drop (E2 + 1))).2.length = E3 := ⟨_, rfl⟩
      rw [← hsz, hE3] at k2 k3 k4
      rw [hE3, show (((E2 + 1 : Nat)) : Int) = (E2 : Int) + 1 from by omega] at KQ
      have hdr : u.drop E2 = (s[E2]'hE2) :: u.drop (E2 + 1) := by
        have := HUL.out
        subst this
        rw [List.drop_eq_getElem_cons (by rw [lst_len]; exact hE2)]
        congr 1
      rw [hdr] at hP
      dsimp only at hP
      clear hdr hE3
      obtain ⟨kd, hkd, zd⟩ : ∃ kd : Int, (if s[E2]'hE2 = 100 then (1 : Int) else 2) = kd ∧ ((kd = 1 ∧ (((s[E2]'hE2).toNat : Int) == 100) = true) ∨ (kd = 2 ∧ (((s[E2]'hE2).toNat : Int) == 100) = false)) := by
        by_cases h : s[E2]'hE2 = 100
        · exact ⟨1, if_pos h, Or.inl ⟨rfl, by rw [h]; rfl⟩⟩
        · exact ⟨2, if_neg h, Or.inr ⟨rfl, u8_ne 100 (by decide) h⟩⟩
      rw [hkd] at hP
      clear hkd
      cases hm : (numR (u.drop (E2 + 1))).1 with
      | none =>
        rw [hm] at hP KQ
        have HM := Lib.hid (show P = none from hP)
        replace KQ : RowKit.Hid (Calls Tryd.prog 28 #[.string s, .int .i64 ((E2 : Int) + 1)] wr fun e w' => e = .returned (.tuple #[.int .i64 (-1), .int .i64 (E3 : Int)]) ∧ wr = w') := Lib.hid KQ
        clear hP hm k2
        rcases zd with ⟨rfl, zd⟩ | ⟨rfl, zd⟩
        · have s4 := HST.out.box 36 #[.int .i64 (n : Int), .int .i64 1, .int .i64 (-1)]
          have f4 := (s4.blk 6 rfl).frozen
          obtain ⟨x0, x1, x2⟩ := (s4.blk 6 rfl).three
          obtain ⟨r0, r1, r2, r3, r4⟩ := (s4.blk 0 rfl).five5
          have S3 := Lib.hid (s4.alloc (.cells #[.int .i64 (n : Int), .int .i64 1, .int .i64 (-1)] 36))
          have HL := Lib.hid (S3.out.lis 4 rfl)
          have RB0 := rds_box3 (wr.alloc (.cells #[.int .i64 (n : Int), .int .i64 1, .int .i64 (-1)] 36)) 36 (.int .i64 (n : Int)) (.int .i64 1) (.int .i64 (-1))
          rw [show (wr.alloc (.cells #[.int .i64 (n : Int), .int .i64 1, .int .i64 (-1)] 36)).heap.size = wr.heap.size + 1 by simp] at RB0
          have RB := Lib.hid RB0
          clear RB0
          clear s4
          go_wp2_with fail
          refine KP.out.mono ?_
          rintro e w2 ⟨rfl, rfl⟩
          go_wp2_with fail
          refine KQ.out.mono ?_
          rintro e w2 ⟨rfl, rfl⟩
          go_wp2_with (first | (at_builtin; refine wpList_lis rfl (.tmp 113) (.tmp 115) 25 rfl 36 iF (.agg #[.int .i64 0, .int .i64 0, .int .i64 0]) 3 24 Tryd.underlying25 hiF hzF hsF hbF rfl (by decide) _ _ _ rfl HL.out _ 1 1 [.int .i64 (n : Int), .int .i64 1, .int .i64 (-1)] rfl RB.out (by simp [Value.oneCell']) (by unfold maxLen; omega) (by omega) ?_; intro B6 c6 w6 hl hg hat; have s5 := S3.out.lis_put 4 rfl hl hg hat; have f5 := (s5.blk 0 rfl).frozen; have q5 := (s5.blk 0 rfl).five5.2.2.2.2; have s7 := s5.set_ 0 rfl 4 (.slice B6 (n4 + 1) c6); have fb := (s7.blk 5 rfl).frozen; obtain ⟨b0, b1, b2, b3, b4⟩ := (s7.blk 5 rfl).five5; have X6 := Lib.hid s7; clear s5 s7 hl hg hat) | fail)
          (try simp only [Exit.inBlock, Exit.then])
          have s6 := ((((X6.out.set_ 5 rfl 0 (.int .i64 0)).set_ 5 rfl 1 (.slice none 0 0)).set_ 5 rfl 2 (.slice none 0 0)).set_ 5 rfl 3 (.slice none 0 0)).set_ 5 rfl 4 (.slice none 0 0)
          refine bodyPost_ret (v := .tuple #[.agg zTk, .int .i64 9]) ?_ rfl (Or.inl ⟨HM.out, rfl, s6.take 0⟩)
          obtain ⟨q0, q1, q2, q3, q4⟩ := (s6.blk 5 rfl).five5
          simp [results, go_sem, zTk, q0, q1, q2, q3, q4]
        · have s4 := HST.out.box 36 #[.int .i64 (n : Int), .int .i64 2, .int .i64 (-1)]
          have f4 := (s4.blk 6 rfl).frozen
          obtain ⟨x0, x1, x2⟩ := (s4.blk 6 rfl).three
          obtain ⟨r0, r1, r2, r3, r4⟩ := (s4.blk 0 rfl).five5
          have S3 := Lib.hid (s4.alloc (.cells #[.int .i64 (n : Int), .int .i64 2, .int .i64 (-1)] 36))
          have HL := Lib.hid (S3.out.lis 4 rfl)
          have RB0 := rds_box3 (wr.alloc (.cells #[.int .i64 (n : Int), .int .i64 2, .int .i64 (-1)] 36)) 36 (.int .i64 (n : Int)) (.int .i64 2) (.int .i64 (-1))
          rw [show (wr.alloc (.cells #[.int .i64 (n : Int), .int .i64 2, .int .i64 (-1)] 36)).heap.size = wr.heap.size + 1 by simp] at RB0
          have RB := Lib.hid RB0
          clear RB0
          clear s4
          go_wp2_with fail
          refine KP.out.mono ?_
          rintro e w2 ⟨rfl, rfl⟩
          go_wp2_with fail
          refine KQ.out.mono ?_
          rintro e w2 ⟨rfl, rfl⟩
          go_wp2_with (first | (at_builtin; refine wpList_lis rfl (.tmp 113) (.tmp 115) 25 rfl 36 iF (.agg #[.int .i64 0, .int .i64 0, .int .i64 0]) 3 24 Tryd.underlying25 hiF hzF hsF hbF rfl (by decide) _ _ _ rfl HL.out _ 1 1 [.int .i64 (n : Int), .int .i64 2, .int .i64 (-1)] rfl RB.out (by simp [Value.oneCell']) (by unfold maxLen; omega) (by omega) ?_; intro B6 c6 w6 hl hg hat; have s5 := S3.out.lis_put 4 rfl hl hg hat; have f5 := (s5.blk 0 rfl).frozen; have q5 := (s5.blk 0 rfl).five5.2.2.2.2; have s7 := s5.set_ 0 rfl 4 (.slice B6 (n4 + 1) c6); have fb := (s7.blk 5 rfl).frozen; obtain ⟨b0, b1, b2, b3, b4⟩ := (s7.blk 5 rfl).five5; have X6 := Lib.hid s7; clear s5 s7 hl hg hat) | fail)
          (try simp only [Exit.inBlock, Exit.then])
          have s6 := ((((X6.out.set_ 5 rfl 0 (.int .i64 0)).set_ 5 rfl 1 (.slice none 0 0)).set_ 5 rfl 2 (.slice none 0 0)).set_ 5 rfl 3 (.slice none 0 0)).set_ 5 rfl 4 (.slice none 0 0)
          refine bodyPost_ret (v := .tuple #[.agg zTk, .int .i64 9]) ?_ rfl (Or.inl ⟨HM.out, rfl, s6.take 0⟩)
          obtain ⟨q0, q1, q2, q3, q4⟩ := (s6.blk 5 rfl).five5
          simp [results, go_sem, zTk, q0, q1, q2, q3, q4]
      | some m =>
        have hmb := numR_bd hm
        rw [hm] at hP KQ
        dsimp only at hP
        rw [k2] at hP
        have HP := Lib.hid hP
        have zm : decide ((m : Int) < 0) = false := decide_eq_false (by omega)
        replace KQ : RowKit.Hid (Calls Tryd.prog 28 #[.string s, .int .i64 ((E2 : Int) + 1)] wr fun e w' => e = .returned (.tuple #[.int .i64 (m : Int), .int .i64 (E3 : Int)]) ∧ wr = w') := Lib.hid KQ
        clear hP hm k2
        rcases zd with ⟨rfl, zd⟩ | ⟨rfl, zd⟩
        · have s4 := HST.out.box 36 #[.int .i64 (n : Int), .int .i64 1, .int .i64 (m : Int)]
          have f4 := (s4.blk 6 rfl).frozen
          obtain ⟨x0, x1, x2⟩ := (s4.blk 6 rfl).three
          obtain ⟨r0, r1, r2, r3, r4⟩ := (s4.blk 0 rfl).five5
          have S3 := Lib.hid (s4.alloc (.cells #[.int .i64 (n : Int), .int .i64 1, .int .i64 (m : Int)] 36))
          have HL := Lib.hid (S3.out.lis 4 rfl)
          have RB0 := rds_box3 (wr.alloc (.cells #[.int .i64 (n : Int), .int .i64 1, .int .i64 (m : Int)] 36)) 36 (.int .i64 (n : Int)) (.int .i64 1) (.int .i64 (m : Int))
          rw [show (wr.alloc (.cells #[.int .i64 (n : Int), .int .i64 1, .int .i64 (m : Int)] 36)).heap.size = wr.heap.size + 1 by simp] at RB0
          have RB := Lib.hid RB0
          clear RB0
          clear s4
          go_wp2_with fail
          refine KP.out.mono ?_
          rintro e w2 ⟨rfl, rfl⟩
          go_wp2_with fail
          refine KQ.out.mono ?_
          rintro e w2 ⟨rfl, rfl⟩
          go_wp2_with (first | (at_builtin; refine wpList_lis rfl (.tmp 113) (.tmp 115) 25 rfl 36 iF (.agg #[.int .i64 0, .int .i64 0, .int .i64 0]) 3 24 Tryd.underlying25 hiF hzF hsF hbF rfl (by decide) _ _ _ rfl HL.out _ 1 1 [.int .i64 (n : Int), .int .i64 1, .int .i64 (m : Int)] rfl RB.out (by simp [Value.oneCell']) (by unfold maxLen; omega) (by omega) ?_; intro B6 c6 w6 hl hg hat; have s5 := S3.out.lis_put 4 rfl hl hg hat; have f5 := (s5.blk 0 rfl).frozen; have q5 := (s5.blk 0 rfl).five5.2.2.2.2; have s7 := s5.set_ 0 rfl 4 (.slice B6 (n4 + 1) c6); have fb := (s7.blk 5 rfl).frozen; obtain ⟨b0, b1, b2, b3, b4⟩ := (s7.blk 5 rfl).five5; have X6 := Lib.hid s7; clear s5 s7 hl hg hat) | fail)
          go_roundw
          case rel => exact ⟨E3, { t with ft := t.ft ++ [((n : Int), 1, (m : Int))] }, B1, B2, B3, B6, n1, n2, n3, n4 + 1, c1, c2, c3, c6, by omega, by omega, rfl, HP.out, ⟨HN.out.1, HN.out.2.1, HN.out.2.2.1, len_snoc _ HN.out.2.2.2⟩, HWO.out, ⟨by omega, by omega, by omega, by omega⟩, by (try unfold TkL); dsimp only; rw [fCs_app, fCs_one]; exact X6.out.take 6⟩
          case measure => simp [intOf]; omega
        · have s4 := HST.out.box 36 #[.int .i64 (n : Int), .int .i64 2, .int .i64 (m : Int)]
          have f4 := (s4.blk 6 rfl).frozen
          obtain ⟨x0, x1, x2⟩ := (s4.blk 6 rfl).three
          obtain ⟨r0, r1, r2, r3, r4⟩ := (s4.blk 0 rfl).five5
          have S3 := Lib.hid (s4.alloc (.cells #[.int .i64 (n : Int), .int .i64 2, .int .i64 (m : Int)] 36))
          have HL := Lib.hid (S3.out.lis 4 rfl)
          have RB0 := rds_box3 (wr.alloc (.cells #[.int .i64 (n : Int), .int .i64 2, .int .i64 (m : Int)] 36)) 36 (.int .i64 (n : Int)) (.int .i64 2) (.int .i64 (m : Int))
          rw [show (wr.alloc (.cells #[.int .i64 (n : Int), .int .i64 2, .int .i64 (m : Int)] 36)).heap.size = wr.heap.size + 1 by simp] at RB0
          have RB := Lib.hid RB0
          clear RB0
          clear s4
          go_wp2_with fail
          refine KP.out.mono ?_
          rintro e w2 ⟨rfl, rfl⟩
          go_wp2_with fail
          refine KQ.out.mono ?_
          rintro e w2 ⟨rfl, rfl⟩
          go_wp2_with (first | (at_builtin; refine wpList_lis rfl (.tmp 113) (.tmp 115) 25 rfl 36 iF (.agg #[.int .i64 0, .int .i64 0, .int .i64 0]) 3 24 Tryd.underlying25 hiF hzF hsF hbF rfl (by decide) _ _ _ rfl HL.out _ 1 1 [.int .i64 (n : Int), .int .i64 2, .int .i64 (m : Int)] rfl RB.out (by simp [Value.oneCell']) (by unfold maxLen; omega) (by omega) ?_; intro B6 c6 w6 hl hg hat; have s5 := S3.out.lis_put 4 rfl hl hg hat; have f5 := (s5.blk 0 rfl).frozen; have q5 := (s5.blk 0 rfl).five5.2.2.2.2; have s7 := s5.set_ 0 rfl 4 (.slice B6 (n4 + 1) c6); have fb := (s7.blk 5 rfl).frozen; obtain ⟨b0, b1, b2, b3, b4⟩ := (s7.blk 5 rfl).five5; have X6 := Lib.hid s7; clear s5 s7 hl hg hat) | fail)
          go_roundw
          case rel => exact ⟨E3, { t with ft := t.ft ++ [((n : Int), 2, (m : Int))] }, B1, B2, B3, B6, n1, n2, n3, n4 + 1, c1, c2, c3, c6, by omega, by omega, rfl, HP.out, ⟨HN.out.1, HN.out.2.1, HN.out.2.2.1, len_snoc _ HN.out.2.2.2⟩, HWO.out, ⟨by omega, by omega, by omega, by omega⟩, by (try unfold TkL); dsimp only; rw [fCs_app, fCs_one]; exact X6.out.take 6⟩
          case measure => simp [intOf]; omega)
end
section
set_option linter.unusedVariables false
set_option maxRecDepth 100000
theorem rdI_nil (w : World) (A : Option Addr) : RdI w A [] := fun i x hx => by cases hx
theorem rdF_nil (w : World) (A : Option Addr) : RdF w A [] := fun i x hx => by cases hx
/-- A record with no more than its first outcomes. -/
def pfT (t : Tk) (i : Nat) : Tk := { t with ft := t.ft.take i }
theorem pf_may {t : Tk} (h : mayT t = true) (i : Nat) : mayT (pfT t i) = true := by
  unfold mayT at h ⊢
  rw [Bool.and_eq_true] at h ⊢
  refine ⟨?_, h.2⟩
  rw [List.all_eq_true] at h ⊢
  exact fun f hf => h.1 f (List.mem_of_mem_take hf)
theorem pf_pre (t : Tk) (i : Nat) : txB t = txB (pfT t i) ++ (t.ft.drop i).flatMap ftB := by
  unfold txB pfT
  dsimp only
  rw [List.append_assoc, List.append_assoc, List.append_assoc, List.append_assoc, ← List.flatMap_append, List.take_append_drop]
theorem pf_one {t : Tk} {i : Nat} {f : Int × Int × Int} (h : t.ft[i]? = some f) : txB (pfT t (i + 1)) = txB (pfT t i) ++ ftB f := by
  have e := pf_pre (pfT t (i + 1)) i
  have hi : i < t.ft.length := (List.getElem?_eq_some_iff.1 h).1
  have e1 : pfT (pfT t (i + 1)) i = pfT t i := by
    unfold pfT
    dsimp only
    rw [List.take_take, Nat.min_eq_left (by omega)]
  have e2 : (pfT t (i + 1)).ft.drop i = [f] := by
    show (t.ft.take (i + 1)).drop i = [f]
    rw [List.take_add_one, h, List.drop_left' (by rw [List.length_take]; omega)]
    rfl
  rw [e1, e2] at e
  rw [e, List.flatMap_cons, List.flatMap_nil, List.append_nil]
theorem pf_end (t : Tk) : pfT t t.ft.length = t := by unfold pfT; rw [List.take_length]
theorem ft_hd (f : Int × Int × Int) : ∃ r, ftB f = 61 :: r := ⟨_, rfl⟩
/-- Nobody's record but who ran. -/
def whT (w : Int) : Tk := ⟨w, [], [], [], []⟩
theorem wh_txt (w : Int) : txB (whT w) = whoB w := by
  unfold txB whT
  dsimp only
  show whoB w ++ ([] ++ ([] ++ ([] ++ []))) = _
  rw [List.append_nil]; simp
theorem wh_may {t : Tk} (h : mayT t = true) : mayT (whT t.who) = true := by
  have := (mayT_parts h).2.1
  unfold mayT whT
  dsimp only
  rw [this]
  rfl
theorem wh_pre (t : Tk) : ∃ r, txB t = txB (whT t.who) ++ r := ⟨_, by rw [wh_txt]; rfl⟩
/-- A text's beginning. -/
theorem pre_cut {s p : ByteArray} {r : List UInt8} (h : s.data.toList = p.data.toList ++ r) : s.extract 0 p.size = p ∧ p.size ≤ s.size := by
  have hp : p.data.toList.length = p.size := lst_len p
  have hs : s.data.toList.length = s.size := lst_len s
  refine ⟨?_, by rw [← hs, ← hp, h, List.length_append]; omega⟩
  have e : (s.extract 0 p.size).data.toList = p.data.toList := by
    rw [ByteArray.data_extract, Array.toList_extract, List.extract_eq_take_drop, h, List.drop_zero, Nat.sub_zero, ← hp, List.take_left]
  exact ByteArray.ext (Array.toList_inj.1 e)
theorem pre_slice {s p : ByteArray} {r : List UInt8} (h : s.data.toList = p.data.toList ++ r) : ∀ W : World, (Instr.slice 9 (.string s) none (some (.int .i64 (p.size : Int))) none).run Tryd.prog W = .ok (.string p) W := fun W => by
  obtain ⟨e1, e2⟩ := pre_cut h
  have := run_slice_string_to_if (P := Tryd.prog) W 9 s .i64 (p.size : Int) Tryd.underlying9
  rw [if_pos ⟨by omega, by omega⟩, show (p.size : Int).toNat = p.size by omega, e1] at this
  exact this
theorem pre_next {s p : ByteArray} {b : UInt8} {r : List UInt8} (h : s.data.toList = p.data.toList ++ b :: r) : ∃ hl : p.size < s.size, s[p.size]'hl = b := by
  have hp : p.data.toList.length = p.size := lst_len p
  have hs : s.data.toList.length = s.size := lst_len s
  have hl : p.size < s.size := by rw [← hs, ← hp, h, List.length_append, List.length_cons]; omega
  refine ⟨hl, ?_⟩
  have e : s.data.toList[p.size]? = some b := by rw [h, ← hp, List.getElem?_append_right (Nat.le_refl _), Nat.sub_self]; rfl
  have : s.data.toList[p.size]? = some (s[p.size]'hl) := by
    rw [List.getElem?_eq_getElem (by rw [hs]; exact hl)]
    congr 1
  rw [this] at e
  injection e
theorem stV_of (l : List UInt8) : ∃ s : ByteArray, stV l = .string s ∧ s.data.toList = l := ⟨⟨l.toArray⟩, rfl, by simp⟩
theorem tab_ofP {W : World} (h : laidMetH Tryd.prog Rows.tracePartsRow.laid W) : TabB W.heap.size W := by
  rw [MakeChecks.laidMetH_plain _ _ _ (by kernel_rfl)] at h
  have h2 := laidMet.tail (laidMet.tail h)
  refine Lib.tabBelow_of_tabIs ?_
  exact Lib.tabIs_of_head (g := 0) (t := 96) (e := 88) (n := 20) (by kernel_rfl) (by kernel_rfl) Tryd.underlying96 Tryd.underlying88 (by kernel_rfl) (by kernel_rfl) h2
theorem tab_ofS {W : World} (h : laidMetH Tryd.prog Rows.traceSpoiledRow.laid W) : TabB W.heap.size W := by
  rw [MakeChecks.laidMetH_plain _ _ _ (by kernel_rfl)] at h
  have h2 := laidMet.tail (laidMet.tail h)
  refine Lib.tabBelow_of_tabIs ?_
  exact Lib.tabIs_of_head (g := 0) (t := 96) (e := 88) (n := 20) (by kernel_rfl) (by kernel_rfl) Tryd.underlying96 Tryd.underlying88 (by kernel_rfl) (by kernel_rfl) h2
end
section
set_option linter.unusedVariables false
set_option maxRecDepth 100000
theorem txO_len {t : Tk} {n1 n2 n3 n4 : Nat} (hm : mayT t = true) (h : TkN t n1 n2 n3 n4) (k1 : n1 ≤ 40) (k2 : n2 ≤ 40) (k3 : n3 ≤ 40) (k4 : n4 ≤ 40) : (txO t).length ≤ 100000 := by
  obtain ⟨h1, h2, h3, h4⟩ := h
  obtain ⟨m1, m2, m3, m4, m5⟩ := mayT_parts hm
  rw [show txO t = txB t from if_pos hm]
  have b1 : ∀ (m : UInt8) (x : Int), 0 ≤ x → x ≤ 2147483647 → (mkB m x).length ≤ 11 := fun m x h0 hx => by
    have := digs_max 9 x.toNat (by omega)
    show (digs x.toNat).length + 1 ≤ 11
    omega
  have b2 : ∀ (m : UInt8) (l : List Int), (∀ x ∈ l, 0 ≤ x ∧ x ≤ 2147483647) → (eachB m l).length ≤ 11 * l.length := fun m l => by
    induction l with
    | nil => intro _; exact Nat.le_refl _
    | cons x l ih =>
      intro hx
      have i1 := ih fun y hy => hx y (List.mem_cons_of_mem _ hy)
      have i2 := b1 m x (hx x List.mem_cons_self).1 (hx x List.mem_cons_self).2
      unfold eachB at i1 ⊢
      rw [List.flatMap_cons, List.length_append, List.length_cons]
      omega
  have b3 : ∀ l : List (Int × Int × Int), (∀ f ∈ l, mayF f = true) → (l.flatMap ftB).length ≤ 22 * l.length := fun l => by
    induction l with
    | nil => intro _; exact Nat.le_refl _
    | cons f l ih =>
      intro hf
      have i1 := ih fun y hy => hf y (List.mem_cons_of_mem _ hy)
      have hm := hf f List.mem_cons_self
      unfold mayF at hm
      simp only [Bool.and_eq_true, Bool.or_eq_true, decide_eq_true_eq] at hm
      have i2 := b1 61 f.1 (by omega) (by omega)
      have i3 := b1 (if f.2.1 = 1 then 100 else 97) f.2.2 (by omega) (by omega)
      rw [List.flatMap_cons, List.length_append, List.length_cons]
      have : (ftB f).length ≤ 22 := by unfold ftB; rw [List.length_append]; omega
      omega
  have r1 := b2 43 t.dn fun x hx => by have := rsI_in _ _ (by omega) m3 x hx; omega
  have r2 := b2 47 t.ct fun x hx => by have := rsI_in _ _ (by omega) m4 x hx; omega
  have r3 := b2 33 t.ms fun x hx => by have := rsI_in _ _ (by omega) m5 x hx; omega
  have r4 := b3 t.ft m1
  have r5 : (whoB t.who).length ≤ 11 := by
    rcases mayW_in m2 with h | h | h
    · rw [h]; decide
    · unfold whoB; rw [if_neg (by omega), if_pos h.1]; exact b1 _ _ (by omega) (by omega)
    · unfold whoB; rw [if_pos h.1]; exact b1 _ _ (by omega) (by omega)
  unfold txB
  rw [List.length_append, List.length_append, List.length_append, List.length_append]
  omega
theorem conv_in {P : Program} (w : World) (src dst e : TypeId) (s : ByteArray) (hs : P.underlying src = some .string) (hd : P.underlying dst = some (.slice e)) (he : P.underlying e = some (.int .u8)) :
    ∃ (wb : World) (cp : Nat), (convert src dst (.string s)).run P w = .ok (.slice (some ⟨w.heap.size, 0, none⟩) s.size cp) wb ∧ Below w.heap.size w wb ∧ (∀ j (h : j < s.size), wb.cell? ⟨w.heap.size, j, none⟩ = some (.int .u8 ((s[j]'h).toNat : Nat))) ∧ (∀ j, j < s.size → wb.frozen? ⟨w.heap.size, j, none⟩ = false) ∧ wb.heap.size = w.heap.size + 1 := by
  refine ⟨Lib.bytesWorld w e s, grownCap w s.size 0 e, Lib.run_convert_string_bytes w src dst e s hs hd he, ?_, fun j h => ?_, fun j h => ?_, Lib.bytesWorld_size w e s⟩
  · exact Lib.below_freeze ((Below.drew (Below.refl _ w)).alloc (Nat.le_refl _) _) (p := ⟨w.heap.size, _, none⟩) (Nat.le_refl _) 1
  · rw [Lib.bytesWorld_cell w e s j h]
    have hj : s.data.toList[j]? = some (s[j]'h) := by
      rw [List.getElem?_eq_getElem (by rw [lst_len]; exact h)]
      congr 1
    rw [List.getD_eq_getElem?_getD, hj]
    rfl
  · have := Lib.bytesWorld_at_new w e s
    unfold World.frozen?
    dsimp only
    rw [this]
    have hz : s.size ≤ (Lib.bytesCells w e s).size := by
      unfold Lib.bytesCells
      rw [Array.size_append, Array.size_map]
      show s.data.size ≤ _
      omega
    simp only [Bool.and_eq_false_iff, decide_eq_false_iff_not]
    exact Or.inl (by omega)
theorem xor_byte (c : UInt8) {x : Int} (hx : 0 ≤ x ∧ x ≤ 255) : ∃ z : Nat, z < 256 ∧ bits .xor .u8 ((c.toNat : Nat) : Int) x = (z : Int) ∧ (z = c.toNat ↔ x = 0) := by
  have hc := c.toNat_lt
  refine ⟨c.toNat ^^^ x.toNat, Nat.xor_lt_two_pow (n := 8) (by omega) (by omega), ?_, ?_⟩
  · have := u8_xor ((c.toNat : Nat) : Int) x (by omega) (by omega) (by omega) (by omega)
    rw [this]
    rfl
  · constructor
    · intro h
      have h2 : c.toNat ^^^ (c.toNat ^^^ x.toNat) = 0 := by rw [h, Nat.xor_self]
      rw [← Nat.xor_assoc, Nat.xor_self, Nat.zero_xor] at h2
      omega
    · rintro rfl
      exact Nat.xor_zero _
/-- A text with a byte turned. -/
def spoilB (s : ByteArray) (i : Nat) (z : Nat) : List UInt8 := s.data.toList.set i (UInt8.ofNat z)
theorem spoil_same (s : ByteArray) {i : Nat} (hi : i < s.size) {z : Nat} (hz : z < 256) : spoilB s i z = s.data.toList ↔ z = (s[i]'hi).toNat := by
  have hj : s.data.toList[i]? = some (s[i]'hi) := by
    rw [List.getElem?_eq_getElem (by rw [lst_len]; exact hi)]
    congr 1
  constructor
  · intro h
    have : (spoilB s i z)[i]? = some (s[i]'hi) := by rw [h, hj]
    unfold spoilB at this
    rw [List.getElem?_set_self (by rw [lst_len]; exact hi)] at this
    injection this with this
    rw [← this, UInt8.toNat_ofNat', Nat.mod_eq_of_lt (by simpa using hz)]
  · rintro rfl
    unfold spoilB
    apply List.ext_getElem?
    intro j
    by_cases hji : j = i
    · subst hji
      rw [List.getElem?_set_self (by rw [lst_len]; exact hi), hj]; simp
    · rw [List.getElem?_set_ne (by omega)]
theorem conv_out {P : Program} (w : World) (src e dst : TypeId) (hs : P.underlying src = some (.slice e)) (he : P.underlying e = some (.int .u8)) (hd : P.underlying dst = some .string) (g cp : Nat) (u : List UInt8) (hc : ∀ j b, u[j]? = some b → w.cell? ⟨g, j, none⟩ = some (.int .u8 (b.toNat : Nat))) :
    (convert src dst (.slice (some ⟨g, 0, none⟩) u.length cp)).run P w = .ok (.string ⟨u.toArray⟩) w := by
  have := run_convert_bytes_arg (P := P) w src e hs he g 0 u.length cp (u.map fun b => (b.toNat : Int)) (by simp) (fun i hi => by
    rw [Nat.zero_add, hc i (u[i]'hi) (List.getElem?_eq_getElem hi)]
    simp [List.getD, hi]) dst hd
  rw [this]
  congr 2
  unfold strOfNums
  congr 2
  rw [List.map_map]
  conv => rhs; rw [← List.map_id u]
  apply List.map_congr_left
  intro b _
  simp
def zT : Tk := ⟨0, [], [], [], []⟩
theorem zT_at (w : World) : (Rec.mk zT none none none none 0 0 0 0 0 0 0 0).At w := ⟨rfl, rfl, rfl, rfl, by dsimp only; omega, by dsimp only; omega, by dsimp only; omega, by dsimp only; omega, rdI_nil _ _, rdI_nil _ _, rdI_nil _ _, rdF_nil _ _⟩
def cdB (o : Option Tk) : Int := match o with | none => 9 | some _ => 0
def rcB (o : Option Tk) : Tk := match o with | none => zT | some t => t
theorem parse25_r (u : List UInt8) (w : World) (hs : u.length ≤ 100000) (hT : TabB w.heap.size w) : Calls Tryd.prog 12 #[.string ⟨u.toArray⟩] w fun e w' => ∃ B1 B2 B3 B4 n1 n2 n3 n4 c1 c2 c3 c4, e = .returned (.tuple #[.agg #[.int .i64 (rcB (prB u)).who, .slice B1 n1 c1, .slice B2 n2 c2, .slice B3 n3 c3, .slice B4 n4 c4], .int .i64 (cdB (prB u))]) ∧ Below w.heap.size w w' ∧ (Rec.mk (rcB (prB u)) B1 B2 B3 B4 n1 n2 n3 n4 c1 c2 c3 c4).At w' := by
  refine (parse25_o u w hs hT).mono ?_
  rintro e w' (⟨h, rfl, k⟩ | ⟨t, B1, B2, B3, B4, n1, n2, n3, n4, c1, c2, c3, c4, h, hN, hk, rfl, k⟩)
  · rw [h]
    exact ⟨none, none, none, none, 0, 0, 0, 0, 0, 0, 0, 0, rfl, k.below, zT_at w'⟩
  · rw [h]
    exact ⟨B1, B2, B3, B4, n1, n2, n3, n4, c1, c2, c3, c4, rfl, k.below, k.recAt (t := t) 0 rfl rfl rfl rfl hN hk⟩
end
section
set_option linter.unusedVariables false
set_option maxRecDepth 100000
theorem rparse25_r (u : List UInt8) (w : World) (hs : u.length ≤ 100000) : Calls Tryd.prog 14 #[.string ⟨u.toArray⟩] w fun e w' => ∃ B1 B2 B3 B4 n1 n2 n3 n4 c1 c2 c3 c4, e = .returned (.tuple #[.agg #[.int .i64 (rcB (prB u)).who, .slice B1 n1 c1, .slice B2 n2 c2, .slice B3 n3 c3, .slice B4 n4 c4], .int .i64 (cdB (prB u))]) ∧ Below w.heap.size w w' ∧ (Rec.mk (rcB (prB u)) B1 B2 B3 B4 n1 n2 n3 n4 c1 c2 c3 c4).At w' := by
  rw [pr_rf]
  refine (rparse25_o _ u w rfl hs).mono ?_
  rintro e w' (⟨h, rfl, k⟩ | ⟨t, B1, B2, B3, B4, n1, n2, n3, n4, c1, c2, c3, c4, h, hN, hk, rfl, k⟩)
  · rw [h]
    exact ⟨none, none, none, none, 0, 0, 0, 0, 0, 0, 0, 0, rfl, k.below, zT_at w'⟩
  · rw [h]
    exact ⟨B1, B2, B3, B4, n1, n2, n3, n4, c1, c2, c3, c4, rfl, k.below, k.recAt (t := t) 0 rfl rfl rfl rfl hN hk⟩
end
end Go.Proofs.YtlceanlenekanaaDoor
