/- Layer 25: the records of a text's words, all of which are records. -/
import Derived.Test.YtlceanlenekanaaDoorTraP
namespace Go.Proofs.YtlceanlenekanaaDoor
open Go.RowKit
set_option linter.unusedVariables false
set_option maxRecDepth 100000
set_option maxHeartbeats 4000000
theorem YtlceanlenekanaaDooriT : (Tryd.prog.info? 27).map (fun i => (i.zero, i.size, i.bytes)) = some (some (.agg #[.int .i64 0, .slice none 0 0, .slice none 0 0, .slice none 0 0, .slice none 0 0]), 5, 104) := by kernel_rfl
theorem rds_box5 (w : World) (e : TypeId) (a b c d x : Value) {k : Nat} (hk : w.heap.size = k) : Rds (w.alloc (.cells #[a, b, c, d, x] e)) (some ⟨k, 0, none⟩) 1 5 [a, b, c, d, x] :=
  hk ▸ ⟨rfl, Or.inr ⟨_, _, rfl, fun j y hy => by
    match j, hy with
    | 0, hy => rw [(Blk.new w e #[a, b, c, d, x]).cell]; simpa using hy
    | 1, hy => rw [(Blk.new w e #[a, b, c, d, x]).cell]; simpa using hy
    | 2, hy => rw [(Blk.new w e #[a, b, c, d, x]).cell]; simpa using hy
    | 3, hy => rw [(Blk.new w e #[a, b, c, d, x]).cell]; simpa using hy
    | 4, hy => rw [(Blk.new w e #[a, b, c, d, x]).cell]; simpa using hy
    | j + 5, hy => simp at hy⟩⟩
def Whos (cs : List Value) (ts : List Tk) : Prop := cs.length = ts.length * 5 ∧ ∀ j t, ts[j]? = some t → cs[j * 5]? = some (.int .i64 t.who)
theorem Whos.snoc {cs : List Value} {ts : List Tk} {t : Tk} {b c d e : Value} (h : Whos cs ts) : Whos (cs ++ [.int .i64 t.who, b, c, d, e]) (ts ++ [t]) := by
  refine ⟨by rw [List.length_append, List.length_append, h.1]; show _ + 5 = (_ + 1) * 5; omega, fun j u hu => ?_⟩
  by_cases hj : j < ts.length
  · rw [List.getElem?_append_left hj] at hu
    rw [List.getElem?_append_left (by rw [h.1]; omega)]
    exact h.2 j u hu
  · rw [List.getElem?_append_right (by omega)] at hu
    obtain ⟨k, rfl⟩ : ∃ k, j = ts.length + k := ⟨j - ts.length, by omega⟩
    rw [Nat.add_sub_cancel_left] at hu
    cases k with
    | zero =>
      injection hu with hu
      subst hu
      rw [List.getElem?_append_right (by rw [h.1]; omega), h.1, show (ts.length + 0) * 5 - ts.length * 5 = 0 by omega]
      rfl
    | succ k => cases hu
theorem all_o (s : ByteArray) (w : World) (hs : s.size ≤ 100000) (hT : TabB w.heap.size w) {us : List (List UInt8)} (hus : wordsB s.data.toList = us) (ts : List Tk) (hlen : ts.length = us.length) (hw : ∀ (i : Nat) u, us[i]? = some u → u.length ≤ 100000 ∧ ∃ t, ts[i]? = some t ∧ prB u = some t) (hn2 : us.length ≤ 100000) :
    Calls Tryd.prog 15 #[.string s] w fun e w' => ∃ B c cs, e = .returned (.tuple #[.slice B us.length c, .int .i64 0]) ∧ Whos cs ts ∧ St w None w' [LisR 27 5 (.slice B us.length c) us.length cs] := by
  obtain ⟨iT, hiT, hzT, hsT, hbT⟩ := info3c YtlceanlenekanaaDooriT
  have KW := Lib.hid (fun w => words_o s w hs)
  rw [hus] at KW
  clear hus
  obtain ⟨N, hN⟩ : ∃ N, us.length = N := ⟨_, rfl⟩
  rw [hN] at KW hlen hn2 ⊢
  have HT := Lib.hid hT
  have HW := Lib.hid hw
  clear hT hw
  go_enter Tryd.func15, Tryd.ntmps15
  go_wp2_with fail
  refine (KW.out _).mono ?_
  rintro e w2 ⟨B, c, rfl, k2⟩
  have S2 := Lib.hid (k2.lis_nil 27 5)
  clear k2 KW
  go_wp2_with fail
  go_loopw [4, 6, 7, 8, 12] (fun x4 _ _ _ x12 wr => ∃ (i c' : Nat) (B' : Option Addr) (cs : List Value), i ≤ N ∧ x4 = .slice B' i c' ∧ x12 = .int .i64 (i : Int) ∧ Whos cs (ts.take i) ∧ St w None wr [LisR 9 1 (.slice B N c) N (stVs us), LisR 27 5 (.slice B' i c') i cs]) (fun _ _ _ _ x12 _ => N - (intOf x12).toNat)
  case atStart => exact ⟨0, 0, none, [], Nat.zero_le _, rfl, rfl, ⟨rfl, fun j t h => by cases h⟩, S2.out⟩
  case round =>
  obtain ⟨i, c', B', cs, hi, rfl, rfl, hwh, hst⟩ := hrel
  by_cases hlt : i < N
  · have z1 : decide ((i : Int) < (N : Int)) = true := decide_eq_true (by omega)
    obtain ⟨u, hu⟩ : ∃ u, us[i]? = some u := ⟨us[i]'(by omega), List.getElem?_eq_getElem _⟩
    obtain ⟨hul, t, ht, hpt⟩ := HW.out i u hu
    obtain ⟨g, o, rfl, l1, c1⟩ := (hst.rdc 0 rfl).1.strs i u hu
    have KP := parse25_o u wr hul (tab_up (TabB.at_ HT.out (Nat.le_refl _) hst.below) hst.below.size)
    unfold tkV at KP
    replace KP := Lib.hid KP
    have HTK := Lib.hid (take_snoc ht)
    have HPT := Lib.hid hpt
    have HWH := Lib.hid hwh
    have HS := Lib.hid hst
    clear hst hu ht hpt hwh
    go_wp2_with (first | (go_at_call 12; refine KP.out.mono ?_; rintro e w3 (⟨h, _⟩ | ⟨t', B1, B2, B3, B4, n1, n2, n3, n4, d1, d2, d3, d4, h, _, _, rfl, k3⟩); exact absurd (h.symm.trans HPT.out) (by simp); have h := h.symm.trans HPT.out; injection h with h; subst h; have s3 : St w None w3 [_, _, _, _, _, _] := HS.out.join k3; clear k3; have s4 := (s3.take 2).box 27 #[.int .i64 t'.who, .slice B1 n1 d1, .slice B2 n2 d2, .slice B3 n3 d3, .slice B4 n4 d4]; obtain ⟨p0, p1, p2, p3, p4⟩ := (s4.blk 2 rfl).five5; have fp := (s4.blk 2 rfl).frozen; have S5 := Lib.hid (s4.alloc (.cells #[.int .i64 t'.who, .slice B1 n1 d1, .slice B2 n2 d2, .slice B3 n3 d3, .slice B4 n4 d4] 27)); have HL := Lib.hid (S5.out.lis 1 rfl); have RB := Lib.hid (rds_box5 (w3.alloc (.cells #[.int .i64 t'.who, .slice B1 n1 d1, .slice B2 n2 d2, .slice B3 n3 d3, .slice B4 n4 d4] 27)) 27 (.int .i64 t'.who) (.slice B1 n1 d1) (.slice B2 n2 d2) (.slice B3 n3 d3) (.slice B4 n4 d4) (k := w3.heap.size + 1) (by simp)); clear s3 s4) | (at_builtin; refine wpList_lis rfl (.tmp 24) (.tmp 26) 40 rfl 27 iT (.agg #[.int .i64 0, .slice none 0 0, .slice none 0 0, .slice none 0 0, .slice none 0 0]) 5 104 Tryd.underlying40 hiT hzT hsT hbT rfl (by decide) _ _ _ rfl HL.out _ 1 1 [.int .i64 t'.who, .slice B1 n1 d1, .slice B2 n2 d2, .slice B3 n3 d3, .slice B4 n4 d4] rfl RB.out (by simp [Value.oneCell']) (by unfold maxLen; omega) (by omega) ?_; intro B7 c7 w7 hl hg hat; have S7 := Lib.hid (S5.out.lis_put 1 rfl hl hg hat); clear hl hg hat) | fail)
    go_roundw
    case rel => exact ⟨i + 1, c7, B7, List.append cs [.int .i64 t'.who, .slice B1 n1 d1, .slice B2 n2 d2, .slice B3 n3 d3, .slice B4 n4 d4], by omega, rfl, by go_num, by rw [HTK.out]; exact HWH.out.snoc, S7.out.take 2⟩
    case measure => simp [intOf]; omega
  obtain rfl : i = N := by omega
  have z1 : decide ((i : Int) < (i : Int)) = false := decide_eq_false (by omega)
  rw [List.take_of_length_le (by omega)] at hwh
  have S2' := Lib.hid (hst.drop 0 (Nat.zero_lt_succ _))
  clear hst
  go_wp2
  go_ret2
  exact ⟨B', c', cs, rfl, hwh, S2'.out⟩
end Go.Proofs.YtlceanlenekanaaDoor
