/- Layer 23: a lock is taken. -/
import Derived.Test.YtpfodchdpafofaaLockD
namespace Go.Proofs.Ytpfodchdpafofaa
open Go.RowKit
set_option linter.unusedVariables false
set_option maxRecDepth 100000
set_option maxHeartbeats 2000000
/-- One thing by itself, and what becomes of all when it turns. -/
theorem St.plug {w0 w : World} {S0 : Nat → Prop} {L : List Res} {R : Res} {i : Nat} (h : St w0 S0 w L) (hi : L[i]? = some R) :
    ∃ T, R w T ∧ ∀ (w' : World) (R' : Res) (T' : Nat → Prop), Ok R' → R' w' T' → Did T T' w w' → St w0 S0 w' (L.set i R') := by
  obtain ⟨S, hs, hd⟩ := h
  have hl := (Star.ok L).lt hs
  obtain ⟨T, hT, hok, hTS, hput⟩ := hs.split hi
  refine ⟨T, hT, fun w' R' T' ho hT' hdid => ⟨_, hput w' R' T' ho hT' (fun b hb hn => hdid.block b (hl b hb) hn) (fun b hb => (hdid.own b hb).imp id fun h => fun h2 => by have := hl b h2; omega), ?_⟩⟩
  exact ⟨hdid.os.trans hd.os, hdid.tape.trans hd.tape, hdid.output.trans hd.output, Nat.le_trans hd.size hdid.size,
    fun k hk hn => (hdid.block k (Nat.lt_of_lt_of_le hk hd.size) fun hkT => by rcases hd.own k (hTS k hkT) with h | h; exact hn h; omega).trans (hd.block k hk hn),
    fun b hb => by
      rcases hb with ⟨h1, _⟩ | h1
      · exact hd.own b h1
      · rcases hdid.own b h1 with h2 | h2
        · exact hd.own b (hTS b h2)
        · exact Or.inr (Nat.le_trans hd.size h2)⟩
section
variable {w0 w w' : World} {S0 S : Nat → Prop} {B L : List Res} {k c b N : Nat} {A : Option Addr} {ptr : Nat → Nat} {s s' : KS}
theorem mapOf_set {i : Nat} {m m' : Mb} (hm : s.mem i = some m) : mapOf (s.set i (some m')) ptr = mapOf s ptr := by
  funext j
  unfold mapOf
  by_cases h : 0 ≤ j
  · rw [if_pos h, if_pos h]
    show Option.map _ (if j.toNat = i then some m' else s.mem j.toNat) = _
    by_cases e : j.toNat = i
    · rw [if_pos e, e, hm]; rfl
    · rw [if_neg e]
  · rw [if_neg h, if_neg h]
theorem kf_set {i : Nat} (o : Option Mb) (ptr' : Nat → Nat) (hp : ∀ j, j ≠ i → ptr' j = ptr j) : (List.range 64).map (fun j => if j = i then MemO o (ptr' i) else MemO (s.mem j) (ptr j)) = KF (s.set i o) ptr' := by
  unfold KF
  refine List.map_congr_left fun j _ => ?_
  show _ = MemO (if j = i then o else s.mem j) (ptr' j)
  by_cases e : j = i
  · subst e; rw [if_pos rfl, if_pos rfl]
  · rw [if_neg e, if_neg e, hp j e]
theorem kl_set {i : Nat} {m m' : Mb} (hi : i < 64) (hm : s.mem i = some m) : (B ++ (KA k A c b N ptr s ++ KF s ptr)).set (B.length + (3 + i)) (MemR (ptr i) m') = B ++ (KA k A c b N ptr (s.set i (some m')) ++ KF (s.set i (some m')) ptr) := by
  rw [List.set_append_right _ _ (by omega), Nat.add_sub_cancel_left]
  have h := fam_set (KA k A c b N ptr s) (fun j => MemO (s.mem j) (ptr j)) (MemR (ptr i) m') hi
  have e : (KA k A c b N ptr s).length = 3 := rfl
  rw [e] at h
  unfold KF
  rw [h]
  have h2 := kf_set (s := s) (ptr := ptr) (i := i) (some m') ptr (fun _ _ => rfl)
  rw [show (fun j => if j = i then MemR (ptr i) m' else MemO (s.mem j) (ptr j)) = (fun j => if j = i then MemO (some m') (ptr i) else MemO (s.mem j) (ptr j)) from rfl, h2]
  unfold KA
  rw [mapOf_set hm]
  rfl
theorem holder_ex (hs : s.ok) (y : Nat) : ∃ o : Option Nat, ∀ i, holds s i y ↔ o = some i := by
  rcases holds_ex s hs y with ⟨i, hi⟩ | h
  · refine ⟨some i, fun j => ⟨fun ⟨m', h1, h2⟩ => ?_, fun e => by injection e with e; subst e; exact hi⟩⟩
    obtain ⟨m, h3, h4⟩ := hi
    rw [hs.one i j m m' y h3 h1 h4 h2]
  · exact ⟨none, fun j => ⟨fun h2 => absurd h2 (h j), fun e => by cases e⟩⟩
theorem takef_c (H : St w0 S0 w (B ++ (KA k A c b N ptr s ++ KF s ptr))) (hs : s.ok) {i : Nat} {m : Mb} (hm : s.mem i = some m) {y : Nat} (hy : y < s.ceils.length) {p1 p2 : Nat}
    (e1 : w.cell? ⟨p1, 0, none⟩ = some (.pointer (some ⟨k, 0, none⟩))) (e2 : w.cell? ⟨p2, 0, none⟩ = some (.int .i64 (y : Int))) {f : Int} (hP : TakeP s i (y : Int) f s') :
    Calls Try.prog 21 #[.pointer (some ⟨ptr i, 0, none⟩), .pointer (some ⟨p1, 0, none⟩), .pointer (some ⟨p2, 0, none⟩)] w fun e w' => e = .returned (.int .i64 f) ∧ St w0 S0 w' (B ++ (KA k A c b N ptr s' ++ KF s' ptr)) := by
  obtain ⟨o, ho⟩ := holder_ex hs y
  have HO := Lib.hid ho
  have HS := Lib.hid hs
  have HM := Lib.hid hm
  have HH := Lib.hid H
  have HC := Lib.hid (Holder_c (KV.of H) hs y o ho)
  have hi := hs.id i m hm
  have hcy : s.ceils[y]? = some (s.ceil y) := by unfold KS.ceil; rw [List.getD_eq_getElem?_getD, List.getElem?_eq_getElem hy]; rfl
  have HCY := Lib.hid hcy
  have hlen16 := hs.len hm
  have hcl := hs.l2
  have HP := Lib.hid hP
  have HE := Lib.hid (And.intro e1 e2)
  clear ho hs hm H hP hcy
  go_enter Try.func21, Try.ntmps21
  go_wp2_with fail
  clear e1 e2
  refine HC.out.mono ?_
  rintro e w1 ⟨rfl, hb⟩
  have h1 := HH.out.stay hb
  have H1 := Lib.hid h1
  have V := KV.of h1
  have e2 : w1.cell? ⟨p2, 0, none⟩ = some (.int .i64 (y : Int)) := by rw [hb.cell (block_lt HE.out.2)]; exact HE.out.2
  have e1 : w1.cell? ⟨p1, 0, none⟩ = some (.pointer (some ⟨k, 0, none⟩)) := by rw [hb.cell (block_lt HE.out.1)]; exact HE.out.1
  obtain ⟨C, d, m0, m1, ml⟩ := V.me i m hi HM.out
  have HL := Lib.hid (fun bb hbb => holds_c m1 ml (by omega) y bb hbb)
  have VV := Lib.hid V
  have ML := Lib.hid ml
  obtain ⟨n, hn⟩ : ∃ n, m.held.length = n := ⟨_, rfl⟩
  rw [hn] at m1
  have HN := Lib.hid hn
  clear HC V HE HH hb h1 ml hn
  obtain ⟨y', hyy, -, hc⟩ := HP.out.resolve_left (by rintro ⟨h, _⟩; omega)
  obtain rfl : y = y' := by omega
  have HQ := Lib.hid hc
  clear hc hyy HP
  rcases HQ.out with ⟨h, _⟩ | ⟨mm, hmm, hc⟩
  · rw [HM.out] at h; cases h
  obtain rfl : m = mm := by have := HM.out; rw [hmm] at this; injection this with this; exact this.symm
  have HQ2 := Lib.hid hc
  clear HQ hc hmm
  obtain ⟨g, off, hA, hg⟩ := VV.out.cl.at_ (by omega)
  have c0 := VV.out.c0
  have g0 := hg y _ (cvs_get HCY.out)
  rw [hA] at c0
  obtain ⟨L0, hL0⟩ : ∃ L0, s.ceils.length = L0 := ⟨_, rfl⟩
  obtain ⟨cy, hcy⟩ : ∃ cy, s.ceil y = cy := ⟨_, rfl⟩
  obtain ⟨mp, hmp⟩ : ∃ mp, m.prio = mp := ⟨_, rfl⟩
  rw [hL0] at c0 hy hcl
  rw [hcy] at g0
  rw [hmp] at m0
  rw [hcy, hmp] at HQ2
  have HMP := Lib.hid hmp
  clear hg hA hL0 hcy hmp
  obtain ⟨gi, hgi⟩ : ∃ gi, ptr i = gi := ⟨_, rfl⟩
  have HGI := Lib.hid hgi
  rw [hgi] at m0 m1 HL ⊢
  clear hgi
  have i0 : (0 : Int) ≤ (y : Int) := by omega
  have i1 : (y : Int) < (L0 : Int) := by omega
  have i2 : y < L0 := hy
  rcases HQ2.out with ⟨hin, rfl, hs'⟩ | ⟨hin, hlt, rfl, hs'⟩ | ⟨hin, hle, ⟨j, hj⟩, rfl, hs'⟩ | ⟨hin, hle, hno, rfl, hs'⟩
  · have HT := Lib.hid (HL.out true (decide_eq_true hin).symm)
    have HSS := Lib.hid hs'
    clear hin HL HQ2 hs'
    go_wp2_with fail
    refine HT.out.mono ?_
    rintro e w2 ⟨rfl, rfl⟩
    go_wp2_with fail
    go_ret
    exact ⟨rfl, by rw [HSS.out]; exact H1.out⟩
  · have HT := Lib.hid (HL.out false (decide_eq_false hin).symm)
    have HSS := Lib.hid hs'
    have z1 : decide (mp < cy) = true := decide_eq_true hlt
    clear hin HL HQ2 hs' hlt
    go_wp2_with fail
    refine HT.out.mono ?_
    rintro e w2 ⟨rfl, rfl⟩
    go_wp2_with fail
    go_quiet (fail)
    go_wp2_with fail
    go_ret
    exact ⟨rfl, by rw [HSS.out]; exact H1.out.drewN _⟩
  · have HT := Lib.hid (HL.out false (decide_eq_false hin).symm)
    have HSS := Lib.hid hs'
    have z1 : decide (mp < cy) = false := decide_eq_false (by omega)
    obtain rfl : o = some j := (HO.out j).1 hj
    clear hin HL HQ2 hs' hle hj
    go_wp2_with fail
    refine HT.out.mono ?_
    rintro e w2 ⟨rfl, rfl⟩
    go_wp2_with fail
    go_quiet (fail)
    go_wp2_with fail
    go_ret
    exact ⟨rfl, by rw [HSS.out]; exact H1.out.drewN _⟩
  · have HT := Lib.hid (HL.out false (decide_eq_false hin).symm)
    have HSS := Lib.hid hs'
    have z1 : decide (mp < cy) = false := decide_eq_false (by omega)
    obtain rfl : o = none := by
      cases o with
      | none => rfl
      | some j => exact absurd ((HO.out j).2 rfl) (hno j)
    obtain ⟨iI, hiI, hzI, hsI, hbI⟩ := info3k Try.infoInt
    clear hin HL HQ2 hs' hle hno
    go_wp2_with fail
    refine HT.out.mono ?_
    rintro e w2 ⟨rfl, rfl⟩
    go_wp2_with fail
    go_quiet (fail)
    clear c0 g0 m0 m1 e1
    obtain ⟨w3, hw3⟩ : ∃ w3, w3 = w1.drewN nq := ⟨_, rfl⟩
    have h3 : St w0 S0 w3 (B ++ (KA k A c b N ptr s ++ KF s ptr)) := by rw [hw3]; exact H1.out.drewN _
    have e2' : w3.cell? ⟨p2, 0, none⟩ = some (.int .i64 (y : Int)) := by rw [hw3]; exact e2
    rw [← hw3]
    clear hw3 e2
    have e3 : (B ++ (KA k A c b N ptr s ++ KF s ptr))[B.length + (3 + i)]? = some (MemR (ptr i) m) := by rw [kl_at hi, HM.out]; rfl
    obtain ⟨T, ⟨C', d', hT⟩, PL⟩ := h3.plug e3
    rw [HGI.out, HN.out, HMP.out] at hT
    have K := St.start hT
    have PL' := Lib.hid PL
    have hcap := (K.lis 1 rfl).caps
    unfold maxLen at hcap
    have q0 := (K.blk 0 rfl).two.2
    have e5 := cell_alloc e2' (.cells #[.int .i64 (y : Int)] 3)
    have s4 := (K.alloc (.cells #[.int .i64 (y : Int)] 3)).drew
    have q1 := ((K.alloc (.cells #[.int .i64 (y : Int)] 3)).blk 0 rfl).two.2
    have RB := Lib.hid (show Rds ((w3.alloc (.cells #[.int .i64 (y : Int)] 3)).drew) (some ⟨w3.heap.size, 0, none⟩) 1 1 (ivs [y]) from rds_box w3 _ _)
    have HL4 := Lib.hid (s4.lis 1 rfl)
    have S4 := Lib.hid s4
    have hn16 : n ≤ 16 := by have := HN.out; omega
    clear h3 K PL e3 hT s4
    go_wp2_with fail
    go_region_law (first
      | (refine step_lis (by rfl) _ _ _ (by rfl) 3 iI (.int .i64 0) 1 8 Try.underlying34 hiI hzI hsI hbI (by rfl) (by omega) (.slice C' n d') n (ivs m.held) (by rfl) HL4.out _ 1 1 (ivs [y]) (by rfl) RB.out (ivs_one _) (by unfold maxLen; omega) (by omega) ?_; intro D cD w5 hl hg hat; have t5 := S4.out.lis_put 1 rfl hl hg hat; have m1 := (t5.blk 0 rfl).two.2; have g1 := (t5.blk 0 rfl).frozen 1; have T6 := Lib.hid (t5.set_ 0 rfl 1 (.slice D (n + 1) cD)); clear hl hg hat t5))
    all_goals
      go_wp2_with fail
      go_ret
      refine ⟨rfl, ?_⟩
      obtain ⟨S', hr, hd⟩ := T6.out.fin (R := MemR (ptr i) ⟨m.prio, m.held ++ [y]⟩) (fun S' h => ⟨D, cD, by
        rw [HGI.out, HMP.out]
        show Star [BlkR gi 56 #[.int .i64 mp, .slice D (m.held ++ [y]).length cD], LisR 3 1 (.slice D (m.held ++ [y]).length cD) (m.held ++ [y]).length (ivs (m.held ++ [y]))] _ _
        rw [List.length_append, HN.out, ivs_app]
        exact h⟩)
      have hx := PL'.out _ _ _ (MemR.ok _ _) hr hd
      rw [kl_set hi HM.out, HMP.out] at hx
      rw [HSS.out]
      exact hx
theorem Take_c (h : KR k N s w S) (hs : s.ok) {i : Nat} (hi : i < 64) {x f : Int} (hP : TakeP s i x f s') :
    Calls Try.prog 14 #[.pointer (some ⟨k, 0, none⟩), .int .i64 (i : Int), .int .i64 x] w fun e w' => ∃ g, e = .returned (.int .i64 g) ∧ (g = f ∧ ∃ S', KR k N s' w' S' ∧ Did S S' w w') := by
  obtain ⟨A, c, b, ptr, h⟩ := h
  have u : St w S ((w.alloc (.cells #[.pointer (some ⟨k, 0, none⟩)] 27)).alloc (.cells #[.int .i64 x] 3)) ([BlkR w.heap.size 27 #[.pointer (some ⟨k, 0, none⟩)], BlkR (w.heap.size + 1) 3 #[.int .i64 x]] ++ (KA k A c b N ptr s ++ KF s ptr)) := by
    have t := ((St.start h).box 27 #[.pointer (some ⟨k, 0, none⟩)]).box 3 #[.int .i64 x]
    rw [show (w.alloc (.cells #[.pointer (some ⟨k, 0, none⟩)] 27)).heap.size = w.heap.size + 1 by simp] at t
    rw [List.append_assoc] at t
    exact t.comm
  have U := Lib.hid u
  have HS := Lib.hid hs
  have HP := Lib.hid hP
  have e1 := (u.blk 0 rfl).one
  have e2 := (u.blk 1 rfl).one
  have V := Lib.hid (KV.of u)
  have fin : ∀ {w1 : World}, St w S w1 ([BlkR w.heap.size 27 #[.pointer (some ⟨k, 0, none⟩)], BlkR (w.heap.size + 1) 3 #[.int .i64 x]] ++ (KA k A c b N ptr s' ++ KF s' ptr)) → ∃ S', KR k N s' w1 S' ∧ Did S S' w w1 := fun {w1} K => by
    have K2 := St.take (St.comm K) (KA k A c b N ptr s' ++ KF s' ptr).length
    rw [List.take_left'] at K2
    · exact K2.fin fun S' h => ⟨A, c, b, ptr, h⟩
    · rfl
  have FIN := Lib.hid (fun w1 => fin (w1 := w1))
  clear u hs h fin
  rcases hP with ⟨hx, rfl, hs'⟩ | ⟨y, rfl, hy, hc⟩
  · have WB := Lib.hid (with_bad V.out HS.out i x hx (.func (Fn.func 21) #[] #[.pointer (some ⟨w.heap.size, 0, none⟩), .pointer (some ⟨w.heap.size + 1, 0, none⟩)]))
    have HSS := Lib.hid hs'
    clear hx hs' HP
    go_enter Try.func14, Try.ntmps14
    go_wp2_with fail
    refine WB.out.mono ?_
    rintro e w1 ⟨rfl, rfl⟩
    go_wp2_with fail
    go_ret
    exact ⟨_, rfl, rfl, FIN.out _ (by rw [HSS.out]; exact U.out)⟩
  · cases hm : s.mem i with
    | none =>
      have WB := Lib.hid (with_none V.out HS.out hi hm hy (.func (Fn.func 21) #[] #[.pointer (some ⟨w.heap.size, 0, none⟩), .pointer (some ⟨w.heap.size + 1, 0, none⟩)]))
      obtain ⟨rfl, hs'⟩ : f = 6 ∧ s' = s := by
        rcases hc with ⟨_, h1, h2⟩ | ⟨m, h1, _⟩
        · exact ⟨h1, h2⟩
        · rw [hm] at h1; cases h1
      have HSS := Lib.hid hs'
      clear hs' HP hc hm
      go_enter Try.func14, Try.ntmps14
      go_wp2_with fail
      refine WB.out.mono ?_
      rintro e w1 ⟨rfl, rfl⟩
      go_wp2_with fail
      go_ret
      exact ⟨_, rfl, rfl, FIN.out _ (by rw [HSS.out]; exact U.out)⟩
    | some m =>
      have WB := Lib.hid (with_some V.out HS.out hm hy (kf := 21) (caps := #[.pointer (some ⟨w.heap.size, 0, none⟩), .pointer (some ⟨w.heap.size + 1, 0, none⟩)]) (Q := fun g w' => g = f ∧ ∃ S', KR k N s' w' S' ∧ Did S S' w w') enter_take
        ((takef_c U.out HS.out hm hy e1 e2 HP.out).mono fun e w' h => ⟨f, h.1, rfl, FIN.out _ h.2⟩))
      clear HP hc hm
      go_enter Try.func14, Try.ntmps14
      go_wp2_with fail
      refine WB.out.mono ?_
      rintro e w1 ⟨g, rfl, rfl, hg⟩
      go_wp2_with fail
      go_ret
      exact ⟨_, rfl, rfl, hg⟩
theorem Take_o (H : St w0 S0 w L) (q : Nat) (hq : L[q]? = some (KR k N s)) (hs : s.ok) {i : Nat} (hi : i < 64) {x f : Int} (hP : TakeP s i x f s') :
    Calls Try.prog 14 #[.pointer (some ⟨k, 0, none⟩), .int .i64 (i : Int), .int .i64 x] w fun e w' => e = .returned (.int .i64 f) ∧ St w0 S0 w' (L.set q (KR k N s')) :=
  St.call (fun w S h => (Take_c h hs hi hP).mono fun e w' ⟨g, h1, h2, h3⟩ => ⟨by rw [h1, h2], h3⟩) (KR.ok _ _ _) H q hq
end
end Go.Proofs.Ytpfodchdpafofaa
