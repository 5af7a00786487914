/- Layer 4: the time goes on. -/
import Derived.Test.YthdhfjcgboglfaaWhI
import Derived.WalkMore
import Derived.BigQuiet
namespace Go.Proofs.Ythdhfjcgboglfaa
open Go.RowKit
set_option linter.unusedVariables false
set_option maxRecDepth 100000
set_option maxHeartbeats 2000000
/-- What a Go answers. -/
def goA (now u : Int) : Int := if u < 4611686018427387904 then (if u < now then 1 else 0) else 2
def goN (now u : Int) : Int := if goA now u = 0 then u else now
def goT (now : Int) (T : Int → Option Int) (u : Int) : Int → Option Int := if goA now u = 0 then aft T u else T
def GoP (now : Int) (T : Int → Option Int) (u : Int) (o : List Int) : Prop := if goA now u = 0 then OffP T u o else o = []
theorem GoP.uniq {now u : Int} {T : Int → Option Int} {o o' : List Int} (h : GoP now T u o) (h' : GoP now T u o') : o = o' := by
  unfold GoP at h h'
  split at h <;> rename_i hc
  · rw [if_pos hc] at h'; exact h.uniq h'
  · rw [if_neg hc] at h'; rw [h, h']
theorem goT_ok {now u : Int} {T : Int → Option Int} (ok : TOK now T) : TOK (goN now u) (goT now T u) := by
  unfold goN goT
  by_cases h : goA now u = 0
  · rw [if_pos h, if_pos h]
    unfold goA at h
    split at h
    · split at h
      · cases h
      · exact ok.aft (by omega) (by omega)
    · cases h
  · rw [if_neg h, if_neg h]; exact ok
theorem OffP.len {now u : Int} {T : Int → Option Int} {o : List Int} (ok : TOK now T) (h : OffP T u o) : o.length ≤ 1000 := len_small 1000 o h.nodup fun x hx => by
  obtain ⟨a, ha, -⟩ := (h.mem x).1 hx
  exact ⟨(ok.t x a ha).1, (ok.t x a ha).2.1⟩
theorem GoP.len {now u : Int} {T : Int → Option Int} {o : List Int} (ok : TOK now T) (h : GoP now T u o) : o.length ≤ 1000 := by
  unfold GoP at h
  split at h
  · exact h.len ok
  · rw [h]; exact Nat.zero_le _
def ncell (v : Option Value) : Int := match v with | some (.int _ x) => x | _ => 0
section
variable {w0 w w' : World} {S0 S : Nat → Prop} {L X : List Res} {m c bw s b n n' sz : Nat} {now at' id u : Int} {mb mb' : Nat → Option Nat} {W W' T T' : Int → Option Int} {e : TypeId} {v v' : Value} {xs xs' : List Value} {R : Res}
theorem wl_xset {k : Nat} {R : Res} : (WL m c bw now mb W T X).set (2 + m + k) R = WL m c bw now mb W T (X.set k R) := wg_xset
theorem wl_lput2 (H : St w0 S0 w (WL m c bw now mb W T ((X ++ [LisR e sz v n xs]) ++ [R]))) (hl : Lis w' e sz v' n' xs') (hg : w.grownBy w' v.ownBlock) (hat : v'.ownBlock = v.ownBlock ∨ ∃ g, v'.ownBlock = some g ∧ w.heap.size ≤ g) : St w0 S0 w' (WL m c bw now mb W T (X ++ [LisR e sz v' n' xs'])) := by
  have h := H.lis_put (e := e) (size := sz) (v := v) (n := n) (xs := xs) (2 + m + X.length) (wl_x (by rw [List.append_assoc]; simp)) hl hg hat
  rw [wl_xset, List.set_append_left _ _ (by simp), last_set] at h
  have h2 := h.drop (2 + m + (X.length + 1)) (by unfold WL; simp; omega)
  have e : (WL m c bw now mb W T ((X ++ [LisR e sz v' n' xs']) ++ [R])).eraseIdx (2 + m + (X.length + 1)) = WL m c bw now mb W T (X ++ [LisR e sz v' n' xs']) := by
    unfold WL
    rw [List.eraseIdx_append_of_length_le (by simp; omega)]
    congr 1
    rw [show 2 + m + (X.length + 1) - ([ArrR c 84 706 (wv now bw mb), OptM Try.prog 3 (some bw) (WV W)] ++ (List.range m).map (fun s => OptM Try.prog 3 (mb s) (MS T now s))).length = X.length + 1 by simp; omega]
    rw [List.eraseIdx_append_of_length_le (by simp)]
    simp
  rw [e] at h2; exact h2
/-- The time goes on, past no timer. -/
theorem wl_on (H : St w0 S0 w (WL 704 c bw now mb W T X)) (hms : ∀ j, MS T u j = MS T now j) : St w0 S0 (w.setCell ⟨c, 0, none⟩ (.int .u64 u)) (WL 704 c bw u mb W T X) :=
  wl_of (V := fun j => if j = 0 then .int .u64 u else wv now bw mb j) (F := fun s => OptM Try.prog 3 (mb s) (MS T now s)) (H.arr_set 0 wl_0 (show 0 < 706 by omega) (.int .u64 u)) (fun j hj => wv_now u j hj) (fun j hj => by rw [hms])
theorem Go_c (H : St w0 S0 w (WL 704 c bw now mb T T X)) (ok : TOK now T) (hu : 0 ≤ u) :
    Calls Try.prog 31 #[.pointer (some ⟨c, 0, none⟩), .int .u64 u] w fun e w' => ∃ A n cap o mb', e = .returned (.tuple #[.slice A n cap, .int .i64 (goA now u)]) ∧ GoP now T u o ∧ o.length = n ∧
      St w0 S0 w' (WL 704 c bw (goN now u) mb' (goT now T u) (goT now T u) (X ++ [LisR 3 1 (.slice A n cap) n (iv o)])) := by
  obtain ⟨iI, hiI, hzI, hsI, hbI⟩ := info3w YthdhfjcgboglfaaiI
  have c0 := wl_now H
  have MY := Lib.hid (fun w => may_any u w)
  by_cases h4 : u < 4611686018427387904
  · have d4 : decide (u < 4611686018427387904) = true := decide_eq_true h4
    by_cases h3 : u < now
    · have d3 : decide (u < now) = true := decide_eq_true h3
      have e1 : goA now u = 1 := by unfold goA; rw [if_pos h4, if_pos h3]
      have e2 : goT now T u = T := by unfold goT; rw [e1]; rfl
      have e3 : goN now u = now := by unfold goN; rw [e1]; rfl
      have e4 := Lib.hid (show GoP now T u [] by unfold GoP; rw [e1]; rfl)
      rw [e1, e2, e3]
      have HH := Lib.hid (show St w0 S0 w (WL 704 c bw now mb T T (X ++ [LisR 3 1 (.slice none 0 0) 0 (iv [])])) by
        have h := H.lis_nil 3 1
        rw [wl_app] at h; exact h)
      clear H e1 e2 e3 h3 ok
      go_enter Try.func31, Try.ntmps31
      go_wp2_with fail
      refine (MY.out _).mono ?_
      rintro e w2 ⟨rfl, rfl⟩
      go_wp2_with fail
      go_ret2
      exact ⟨none, 0, 0, [], mb, rfl, e4.out, rfl, HH.out⟩
    · have d3 : decide (u < now) = false := decide_eq_false h3
      have e1 : goA now u = 0 := by unfold goA; rw [if_pos h4, if_neg h3]
      have e2 : goT now T u = aft T u := by unfold goT; rw [e1]; rfl
      have e3 : goN now u = u := by unfold goN; rw [e1]; rfl
      have e4 : ∀ o, OffP T u o → GoP now T u o := fun o h => by unfold GoP; rw [e1]; exact h
      have E4 := Lib.hid e4
      rw [e1, e2, e3]
      have HH := Lib.hid (show St w0 S0 w (WL 704 c bw now mb (aft T now) (aft T now) (X ++ [LisR 3 1 (.slice none 0 0) 0 (iv [])])) by
        have h := H.lis_nil 3 1
        rw [wl_app] at h
        rw [aft_like fun i a h => (ok.t i a h).2.2.1]
        exact h)
      have OK := Lib.hid ok
      have LE := Lib.hid (show now ≤ u by omega)
      clear H e1 e2 e3 e4 h3 ok
      go_enter Try.func31, Try.ntmps31
      go_wp2_with fail
      refine (MY.out _).mono ?_
      rintro e w2 ⟨rfl, rfl⟩
      clear MY
      go_wp2_with fail
      go_loopw [6] (fun x wr => ∃ (A : Option Addr) (n cap : Nat) (o : List Int) (now1 : Int) (mb1 : Nat → Option Nat), x = .slice A n cap ∧ o.length = n ∧ OffP T now1 o ∧ now ≤ now1 ∧ now1 ≤ u ∧ St w0 S0 wr (WL 704 c bw now1 mb1 (aft T now1) (aft T now1) (X ++ [LisR 3 1 (.slice A n cap) n (iv o)]))) (fun _ wr => (u - ncell (wr.cell? ⟨c, 0, none⟩)).toNat)
      case atStart => exact ⟨none, 0, 0, [], now, mb, rfl, rfl, OffP.nil OK.out, Int.le_refl _, LE.out, HH.out⟩
      case round =>
      clear HH c0 d3
      obtain ⟨A, n, cap, o, now1, mb1, rfl, hn, hoff, hl1, hl2, sr⟩ := hrel
      have HN := Lib.hid hn
      have HOFF := Lib.hid hoff
      have OK1 := Lib.hid (OK.out.aft hl1 (show now1 < 4611686018427387904 by omega))
      have C0 := Lib.hid (wl_now sr)
      have NX := Lib.hid (next_c sr)
      clear hn hoff sr
      go_wp2_with fail
      refine NX.out.mono ?_
      rintro e w3 ⟨s3, ⟨s, hs, rfl, hex, hf⟩ | ⟨rfl, hem⟩⟩
      · obtain ⟨k, hk⟩ := hex
        obtain ⟨v, hv⟩ := Option.isSome_iff_exists.1 hk
        obtain ⟨a, ha, hbs, -⟩ := MS_inv hv
        have hbl := hbs.bg_le
        obtain ⟨-, -, a0, a1⟩ := OK1.out.t k a ha
        have hb0 := hbs.now_lt a0
        obtain ⟨B, hB⟩ : ∃ B, bgS now1 s = B := ⟨_, rfl⟩
        rw [hB] at hbl hb0
        have BC := Lib.hid (begin_c s3 OK1.out.n0 OK1.out.n1 hs (by rw [hB]; omega))
        rw [hB] at BC
        have HB := Lib.hid hB
        have HS := Lib.hid hs
        have HF := Lib.hid (show First (aft T now1) now1 s from hf)
        have HEX := Lib.hid (show ∃ i, (MS (aft T now1) now1 s i).isSome = true from ⟨k, hk⟩)
        clear s3 NX hk hv ha hbs hB hf
        go_wp2_with fail
        refine BC.out.mono ?_
        rintro e w4 ⟨rfl, s4⟩
        by_cases hub : B ≤ u
        · have d5 : decide (u < B) = false := decide_eq_false (by omega)
          have OC := Lib.hid (open_c s4 OK1.out HS.out HEX.out HF.out (by rw [HB.out]; omega))
          rw [HB.out] at OC
          clear s4 BC
          go_wp2_with fail
          refine OC.out.mono ?_
          rintro e w5 ⟨A2, n2, cap2, o2, mb2, rfl, ho2, hn2, s5⟩
          rw [aft_aft (show now1 ≤ B by omega)] at s5
          have HO := Lib.hid (show OffP T B (o ++ o2) from HOFF.out.app (by omega) ho2)
          have HN2 := Lib.hid (show (o ++ o2).length = n + n2 by rw [List.length_append, HN.out, hn2])
          have hlen : n + n2 ≤ 1000 := by rw [← HN2.out]; exact HO.out.len OK.out
          have hl5 : Lis w5 3 1 (.slice A n cap) n (iv o) := s5.lis (2 + 704 + X.length) (wl_x (by rw [List.append_assoc]; simp))
          have hr5 := (wl_last s5).reads.2
          have HL5 := Lib.hid hl5
          have HR5 := Lib.hid (show Rds w5 A2 n2 1 (iv o2) from ⟨(wl_last s5).1, hr5⟩)
          have S5 := Lib.hid s5
          clear ho2 hn2 s5 hl5 hr5 OC
          go_wp2_with (at_builtin; refine wpList_lis rfl (.tmp 37) (.tmp 41) 75 rfl 3 iI (.int .i64 0) 1 8 Try.underlying75 hiI hzI hsI hbI rfl (by decide) _ _ _ rfl HL5.out A2 n2 cap2 (iv o2) rfl HR5.out (iv_one o2) (by unfold maxLen; omega) (by omega) ?_; intro D cD w6 hl hg hat; have t6 := wl_lput2 S5.out hl hg hat; rw [← iv_app] at t6; have S6 := Lib.hid t6; clear hl hg hat t6)
          go_roundw
          case rel => exact ⟨D, n + n2, cD, o ++ o2, B, mb2, rfl, HN2.out, HO.out, by omega, hub, S6.out⟩
          case measure => rw [C0.out, wl_now S6.out]; show (u - B).toNat < (u - now1).toNat; omega
        · have d5 : decide (u < B) = true := decide_eq_true (by omega)
          have hge : ∀ i a, aft T now1 i = some a → u < a := fun i a h => by
            have := HF.out.bg_le OK1.out h
            rw [HB.out] at this
            omega
          have hau : aft T now1 = aft T u := by rw [← aft_aft hl2, aft_like hge]
          have s5 := wl_on (u := u) s4 (HF.out.stay OK1.out HEX.out hl2 (by rw [HB.out]; omega))
          rw [hau] at s5
          have S5 := Lib.hid s5
          have HO := Lib.hid (show OffP T u o by
            have := HOFF.out.app hl2 (OffP.none hge)
            rwa [List.append_nil] at this)
          have cn := wl_now s4
          have fn := s4.arr_frozen 0 wl_0 0
          clear s4 BC hge hau s5
          go_wp2_with fail
          go_ret2
          exact ⟨_, _, _, _, _, rfl, E4.out _ HO.out, HN.out, S5.out⟩
      · have hno := empty_all OK1.out hem
        have hge : ∀ i a, aft T now1 i = some a → u < a := fun i a h => by rw [hno i] at h; cases h
        have hau : aft T now1 = aft T u := by rw [← aft_aft hl2, aft_like hge]
        have s5 := wl_on (u := u) s3 (empty_stay OK1.out hem)
        rw [hau] at s5
        have S5 := Lib.hid s5
        have HO := Lib.hid (show OffP T u o by
          have := HOFF.out.app hl2 (OffP.none hge)
          rwa [List.append_nil] at this)
        have cn := wl_now s3
        have fn := s3.arr_frozen 0 wl_0 0
        clear s3 NX hge hau s5 hno hem
        go_wp2_with fail
        go_ret2
        exact ⟨_, _, _, _, _, rfl, E4.out _ HO.out, HN.out, S5.out⟩
  · have d4 : decide (u < 4611686018427387904) = false := decide_eq_false h4
    have e1 : goA now u = 2 := by unfold goA; rw [if_neg h4]
    have e2 : goT now T u = T := by unfold goT; rw [e1]; rfl
    have e3 : goN now u = now := by unfold goN; rw [e1]; rfl
    have e4 := Lib.hid (show GoP now T u [] by unfold GoP; rw [e1]; rfl)
    rw [e1, e2, e3]
    have HH := Lib.hid (show St w0 S0 w (WL 704 c bw now mb T T (X ++ [LisR 3 1 (.slice none 0 0) 0 (iv [])])) by
      have h := H.lis_nil 3 1
      rw [wl_app] at h; exact h)
    clear H e1 e2 e3 h4 ok
    go_enter Try.func31, Try.ntmps31
    go_wp2_with fail
    refine (MY.out _).mono ?_
    rintro e w2 ⟨rfl, rfl⟩
    go_wp2_with fail
    go_ret2
    exact ⟨none, 0, 0, [], mb, rfl, e4.out, rfl, HH.out⟩
end
end Go.Proofs.Ythdhfjcgboglfaa
