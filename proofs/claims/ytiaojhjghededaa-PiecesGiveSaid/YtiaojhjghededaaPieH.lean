/- Layer 8: a list's buffers given. -/
import Derived.Test.YtiaojhjghededaaPieE
namespace Go.Proofs.Ytiaojhjghededaa
open Go.RowKit
set_option linter.unusedVariables false
set_option maxRecDepth 100000
set_option maxHeartbeats 4000000
/-- Some buffers are another owner's. -/
def gvS (st : Nat → Buf) (l : List (Int × Int)) (z : Int) : Nat → Buf := fun i => if (l.any fun x => x.1 == (i : Int)) = true then { st i with owner := z } else st i
theorem gvS_nil (st : Nat → Buf) (z : Int) : gvS st [] z = st := by funext i; rfl
theorem gvS_snoc (st : Nat → Buf) (l : List (Int × Int)) (x : Int × Int) (z : Int) {i : Nat} (hx : x.1 = (i : Int)) : gvS st (l ++ [x]) z = updB (gvS st l z) i { gvS st l z i with owner := z } := by
  funext j
  unfold gvS updB
  rw [List.any_append]
  by_cases h : j = i
  · subst h
    rw [if_pos rfl, if_pos (by simp [hx])]
    split <;> rfl
  · rw [if_neg h]
    have : (([x] : List (Int × Int)).any fun x => x.1 == (j : Int)) = false := by
      simp only [List.any_cons, List.any_nil, Bool.or_false]
      exact beq_eq_false_iff_ne.2 (by omega)
    rw [this, Bool.or_false]
theorem gvS_ok {n : Nat} {st : Nat → Buf} {G : Int} (ok : POK n st G) (l : List (Int × Int)) {z : Int} (hz : who z) : POK n (gvS st l z) G := ⟨ok.n1, ok.n2, ok.g, fun i hi => by
  have := ok.b i hi
  obtain ⟨h1, h2, h3, h4⟩ := this
  unfold gvS
  split
  · exact ⟨h1, ⟨by have := hz.1; show (0 : Int) ≤ z; omega, hz.2⟩, h3, h4⟩
  · exact ⟨h1, h2, h3, h4⟩⟩
theorem addH_mem {l : List (Int × Int)} {x y : Int × Int} : y ∈ addH l x ↔ y ∈ l ∨ y = x := by
  unfold addH
  split
  · next h => exact ⟨fun hy => Or.inl hy, fun hy => hy.elim id fun e => e ▸ h⟩
  · rw [List.mem_append, List.mem_singleton]
theorem addH_nodup {l : List (Int × Int)} {x : Int × Int} (h : l.Nodup) : (addH l x).Nodup := by
  unfold addH
  split
  · exact h
  · next hx =>
    refine List.nodup_append.2 ⟨h, by simp, fun a ha b hb => ?_⟩
    rw [List.mem_singleton.1 hb]
    exact fun e => hx (e ▸ ha)
theorem bufs_all : ∀ (ps : List Pc) (l : List (Int × Int)), l.Nodup → ((ps.foldl (fun l p => addH l (p.s, p.g)) l).Nodup ∧ ∀ y, y ∈ ps.foldl (fun l p => addH l (p.s, p.g)) l ↔ y ∈ l ∨ ∃ p ∈ ps, y = (p.s, p.g))
  | [], l, h => ⟨h, fun y => ⟨Or.inl, fun h => h.elim id fun ⟨p, hp, _⟩ => (by cases hp)⟩⟩
  | p :: r, l, h => by
    obtain ⟨h1, h2⟩ := bufs_all r (addH l (p.s, p.g)) (addH_nodup h)
    refine ⟨h1, fun y => ?_⟩
    rw [List.foldl_cons, h2, addH_mem]
    constructor
    · rintro ((hy | hy) | ⟨q, hq, hy⟩)
      · exact Or.inl hy
      · exact Or.inr ⟨p, List.mem_cons_self, hy⟩
      · exact Or.inr ⟨q, List.mem_cons_of_mem _ hq, hy⟩
    · rintro (hy | ⟨q, hq, hy⟩)
      · exact Or.inl (Or.inl hy)
      · rcases List.mem_cons.1 hq with rfl | hq
        · exact Or.inl (Or.inr hy)
        · exact Or.inr ⟨q, hq, hy⟩
theorem bufs_nodup (ps : List Pc) : (bufsP ps).Nodup := (bufs_all ps [] List.nodup_nil).1
theorem bufs_mem (ps : List Pc) (y : Int × Int) : y ∈ bufsP ps ↔ ∃ p ∈ ps, y = (p.s, p.g) := by
  rw [show y ∈ bufsP ps ↔ _ from (bufs_all ps [] List.nodup_nil).2 y]
  simp
/-- Live, and this one's. -/
def isOf (n : Nat) (st : Nat → Buf) (a : Int) (x : Int × Int) : Prop := ∃ i : Nat, i < n ∧ x.1 = (i : Int) ∧ (st i).owner ≠ 0 ∧ (st i).gen = x.2 ∧ (st i).owner = a
theorem give_via {n : Nat} {st : Nat → Buf} {a z : Int} {l : List (Int × Int)} {x : Int × Int} (hp : who a ∧ who z ∧ a ≠ z) (hl : ∀ y ∈ l, isOf n st a y) (hx : isOf n st a x) (hn : x ∉ l) : Via n (gvS st l z) x.1 x.2 (GiveB a z) 0 (gvS st (l ++ [x]) z) := by
  obtain ⟨i, h1, h2, h3, h4, h5⟩ := hx
  have hne : (l.any fun y => y.1 == (i : Int)) = false := by
    rw [List.any_eq_false]
    intro y hy
    simp only [beq_iff_eq]
    intro e
    obtain ⟨j, g1, g2, g3, g4, g5⟩ := hl y hy
    obtain rfl : j = i := by omega
    exact hn (by rw [show x = y from Prod.ext (by omega) (by omega)]; exact hy)
  have hs : gvS st l z i = st i := by unfold gvS; rw [if_neg (by rw [hne]; exact Bool.false_ne_true)]
  refine Or.inr ⟨i, { gvS st l z i with owner := z }, h1, h2, by rw [hs]; exact h3, by rw [hs]; exact h4, Or.inr (Or.inr ⟨hp, by rw [hs]; exact h5, rfl, rfl⟩), gvS_snoc st l x z h2⟩
theorem back_0 (q : Value) (B : Option Addr) (c : Nat) (a z : Int) (w : World) : Calls Try.prog 31 #[q, .slice B 0 c, .int .i64 a, .int .i64 z] w fun e w' => (∃ v, e = .returned v) ∧ w = w' := by
  go_enter Try.func31, Try.ntmps31
  go_wp2
  go_loopw [9, 12] (fun _ x12 wr => x12 = .int .i64 0 ∧ wr = w) (fun _ _ _ => 0)
  case atStart => exact ⟨rfl, rfl⟩
  case round =>
    obtain ⟨rfl, rfl⟩ := hrel
    go_wp2
    go_end0
    exact ⟨⟨_, rfl⟩, rfl⟩
section
variable {w0 w : World} {S0 : Nat → Prop} {L : List Res} {p n : Nat} {st : Nat → Buf} {G : Int}
theorem give_arg (H : St w0 S0 w L) (i : Nat) (hi : L[i]? = some (PoolR p n st)) (ok : POK n st G) (A : Option Addr) (cap : Nat) (ps : List Pc) (hlen : ps.length ≤ cap) (hcap : cap ≤ maxLen) (hR : RdP w0 A ps) (hN : notIn A S0) (a z : Int) (hm : mayL n st ps = false) :
    Calls Try.prog 16 #[.pointer (some ⟨p, 0, none⟩), .slice A ps.length cap, .int .i64 a, .int .i64 z] w fun e w' => e = .returned (.int .i64 1) ∧ St w0 S0 w' L := by
  have KM := may_o8 H i hi ok A cap ps hlen hcap hR hN
  rw [hm] at KM
  replace KM := Lib.hid KM
  clear H hi ok hR hN hm
  go_enter Try.func16, Try.ntmps16
  go_wp2_with fail
  refine KM.out.mono ?_
  rintro e w1 ⟨rfl, s1⟩
  have S1 := Lib.hid s1
  clear s1
  go_wp2
  go_ret
  exact ⟨rfl, S1.out⟩
theorem give_first (H : St w0 S0 w L) (i : Nat) (hi : L[i]? = some (PoolR p n st)) (ok : POK n st G) (A : Option Addr) (cap : Nat) (ps : List Pc) (hlen : ps.length ≤ cap) (hl2 : ps.length ≤ 1000) (hcap : cap ≤ maxLen) (hwf : ∀ q ∈ ps, q.wf) (hR : RdP w0 A ps) (hN : notIn A S0) (a z : Int) (hm : mayL n st ps = true) {x : Int × Int} {r : List (Int × Int)} (hb : bufsP ps = x :: r) {c : Int} (hv : Via n st x.1 x.2 (GiveB a z) c st) (hc : c ≠ 0) :
    Calls Try.prog 16 #[.pointer (some ⟨p, 0, none⟩), .slice A ps.length cap, .int .i64 a, .int .i64 z] w fun e w' => e = .returned (.int .i64 c) ∧ St w0 S0 w' L := by
  have KM := may_o8 H i hi ok A cap ps hlen hcap hR hN
  rw [hm] at KM
  replace KM := Lib.hid KM
  have KB := Lib.hid (fun (w' : World) (h : St w0 S0 w' L) => bufs_o A cap ps hwf hl2 w' (h.rdp hR hN))
  rw [hb] at KB
  have HOK := Lib.hid ok
  have HI := Lib.hid hi
  have HV := Lib.hid hv
  have HX := Lib.hid (hCs_get (l := x :: r) (i := 0) rfl)
  obtain ⟨N, hNN⟩ : ∃ N, (x :: r).length = N + 1 := ⟨r.length, rfl⟩
  rw [hNN] at KB
  obtain ⟨F, hF⟩ : ∃ F, x :: r = F := ⟨_, rfl⟩
  rw [hF] at KB HX
  have zc : (c != 0) = true := bne_iff_ne.2 hc
  have zc2 : (c == 0) = false := beq_eq_false_iff_ne.2 hc
  clear H hi ok hR hN hm hb hv hwf hNN hF
  go_enter Try.func16, Try.ntmps16
  go_wp2_with fail
  refine KM.out.mono ?_
  rintro e w1 ⟨rfl, s1⟩
  have S1 := Lib.hid s1
  clear s1
  go_wp2_with fail
  refine (KB.out _ S1.out).mono ?_
  rintro e w2 ⟨C, cc, rfl, k2⟩
  have s2 := S1.out.join k2
  have hlast : (L ++ [LisR 40 2 (.slice C (N + 1) cc) (N + 1) (hCs F)])[L.length]? = some (LisR 40 2 (.slice C (N + 1) cc) (N + 1) (hCs F)) := by simp
  obtain ⟨A', cap', ev, v1, v2, v3, v4⟩ := s2.lis_cells L.length hlast
  injection ev with ev1 ev2 ev3
  subst ev1; subst ev3
  rcases v4 with v4 | ⟨g, off, rfl, hcs⟩
  · omega
  have d0 := hcs _ _ HX.out.1
  have d1 := hcs _ _ HX.out.2
  rw [Nat.zero_mul, Nat.add_zero] at d0
  rw [Nat.zero_mul, Nat.zero_add] at d1
  have hiB : (L ++ [LisR 40 2 (.slice (some ⟨g, off, none⟩) (N + 1) cc) (N + 1) (hCs F)])[i]? = some (PoolR p n st) := by
    rw [List.getElem?_append_left (List.getElem?_eq_some_iff.1 HI.out).1]; exact HI.out
  have KG := give_o (s2.alloc (.cells #[.int .i64 x.1, .int .u64 x.2] 40)) i hiB HOK.out HV.out
  rw [set_same' hiB] at KG
  replace KG := Lib.hid KG
  have z0 : decide ((0 : Int) < ((N + 1 : Nat) : Int)) = true := decide_eq_true (by omega)
  have z00 : decide ((0 : Int) < (N : Int) + 1) = true := decide_eq_true (by omega)
  have KBK := Lib.hid (fun (w : World) (B : Option Addr) (c : Nat) => back_0 (.pointer (some ⟨p, 0, none⟩)) B c a z w)
  clear k2 s2 hlast hcs hiB
  go_wp2
  go_loopw [10, 11, 12, 21] (fun _ _ _ x21 wr => x21 = .int .i64 0 ∧ wr = w2) (fun _ _ _ _ _ => 0)
  case atStart => exact ⟨rfl, rfl⟩
  case round =>
    obtain ⟨rfl, rfl⟩ := hrel
    go_wp2_with fail
    refine KG.out.mono ?_
    rintro e w3 ⟨rfl, s3⟩
    have S3 := Lib.hid (show St w0 S0 _ L from by have := s3.take L.length; simpa using this)
    clear s3
    go_wp2_with fail
    refine (KBK.out _ _ _).mono ?_
    rintro e w4 ⟨⟨v, rfl⟩, rfl⟩
    go_wp2
    go_ret
    exact ⟨rfl, S3.out⟩
theorem give_all (H : St w0 S0 w L) (i : Nat) (hi : L[i]? = some (PoolR p n st)) (ok : POK n st G) (A : Option Addr) (cap : Nat) (ps : List Pc) (hlen : ps.length ≤ cap) (hl2 : ps.length ≤ 1000) (hcap : cap ≤ maxLen) (hwf : ∀ q ∈ ps, q.wf) (hR : RdP w0 A ps) (hN : notIn A S0) (a z : Int) (hm : mayL n st ps = true) (hp : who a ∧ who z ∧ a ≠ z) (hall : ∀ x ∈ bufsP ps, isOf n st a x) :
    Calls Try.prog 16 #[.pointer (some ⟨p, 0, none⟩), .slice A ps.length cap, .int .i64 a, .int .i64 z] w fun e w' => e = .returned (.int .i64 0) ∧ St w0 S0 w' (L.set i (PoolR p n (gvS st (bufsP ps) z))) := by
  have KM := may_o8 H i hi ok A cap ps hlen hcap hR hN
  rw [hm] at KM
  replace KM := Lib.hid KM
  have KB := Lib.hid (fun (w' : World) (h : St w0 S0 w' L) => bufs_o A cap ps hwf hl2 w' (h.rdp hR hN))
  have hnd := bufs_nodup ps
  have hbl := bufs_len ps
  obtain ⟨F, hF⟩ : ∃ F, bufsP ps = F := ⟨_, rfl⟩
  rw [hF] at KB hnd hall hbl ⊢
  have HOK := Lib.hid ok
  have HI := Lib.hid hi
  have HALL := Lib.hid hall
  have HND := Lib.hid hnd
  have HP := Lib.hid hp
  have hil := (List.getElem?_eq_some_iff.1 hi).1
  clear H hi ok hR hN hm hwf hF hall hnd hp
  go_enter Try.func16, Try.ntmps16
  go_wp2_with fail
  refine KM.out.mono ?_
  rintro e w1 ⟨rfl, s1⟩
  have S1 := Lib.hid s1
  clear s1
  go_wp2_with fail
  refine (KB.out _ S1.out).mono ?_
  rintro e w2 ⟨C, cc, rfl, k2⟩
  have s2 := S1.out.join k2
  have S2 := Lib.hid (show St w0 S0 w2 (L.set i (PoolR p n (gvS st (F.take 0) z)) ++ [LisR 40 2 (.slice C F.length cc) F.length (hCs F)]) from by
    rw [List.take_zero, gvS_nil, set_same' HI.out]; exact s2)
  clear k2 s2
  go_wp2
  go_loopw [10, 11, 12, 21] (fun _ _ _ x21 wr => ∃ k : Nat, k ≤ F.length ∧ x21 = .int .i64 (k : Int) ∧ St w0 S0 wr (L.set i (PoolR p n (gvS st (F.take k) z)) ++ [LisR 40 2 (.slice C F.length cc) F.length (hCs F)])) (fun _ _ _ x21 _ => F.length - (intOf x21).toNat)
  case atStart => exact ⟨0, Nat.zero_le _, rfl, S2.out⟩
  case round =>
  obtain ⟨k, hk, rfl, hst⟩ := hrel
  by_cases hlt : k < F.length
  rotate_left 1
  · obtain rfl : k = F.length := by omega
    have z0 : decide ((F.length : Int) < (F.length : Int)) = false := decide_eq_false (by omega)
    rw [List.take_length] at hst
    have HST := Lib.hid (show St w0 S0 _ (L.set i (PoolR p n (gvS st F z))) from by have := hst.take L.length; simpa using this)
    clear hst
    go_wp2
    go_ret
    exact ⟨rfl, HST.out⟩
  obtain ⟨x, hx⟩ : ∃ x, F[k]? = some x := ⟨F[k]'hlt, List.getElem?_eq_getElem hlt⟩
  have hlast : (L.set i (PoolR p n (gvS st (F.take k) z)) ++ [LisR 40 2 (.slice C F.length cc) F.length (hCs F)])[L.length]? = some (LisR 40 2 (.slice C F.length cc) F.length (hCs F)) := by simp
  obtain ⟨A', cap', ev, v1, v2, v3, v4⟩ := hst.lis_cells L.length hlast
  injection ev with ev1 ev2 ev3
  subst ev1; subst ev3
  rcases v4 with v4 | ⟨g, off, rfl, hcs⟩
  · omega
  obtain ⟨y0, y1⟩ := hCs_get hx
  have d0 := hcs _ _ y0
  have d1 := hcs _ _ y1
  rw [← Nat.add_assoc] at d1
  have z0 : decide ((k : Int) < (F.length : Int)) = true := decide_eq_true (by omega)
  have hiB : (L.set i (PoolR p n (gvS st (F.take k) z)) ++ [LisR 40 2 (.slice (some ⟨g, off, none⟩) F.length cc) F.length (hCs F)])[i]? = some (PoolR p n (gvS st (F.take k) z)) := by
    rw [List.getElem?_append_left (by rw [List.length_set]; exact hil), List.getElem?_set_self hil]
  have hxn : x ∉ F.take k := fun hmem => by
    obtain ⟨j, hj⟩ := List.getElem?_of_mem hmem
    have hjk : j < k := by have := (List.getElem?_eq_some_iff.1 hj).1; rw [List.length_take] at this; omega
    rw [List.getElem?_take_of_lt hjk] at hj
    obtain ⟨q1, q2⟩ := List.getElem?_eq_some_iff.1 hj
    obtain ⟨q3, q4⟩ := List.getElem?_eq_some_iff.1 hx
    exact (List.pairwise_iff_getElem.1 HND.out) j k q1 q3 hjk (q2.trans q4.symm)
  have hv := give_via (n := n) HP.out (fun y hy => HALL.out y (List.mem_of_mem_take hy)) (HALL.out x (List.mem_of_getElem? hx)) hxn
  have KG := give_o (hst.alloc (.cells #[.int .i64 x.1, .int .u64 x.2] 40)) i hiB (gvS_ok HOK.out _ HP.out.2.1) hv
  have e1 : F.take (k + 1) = F.take k ++ [x] := by rw [List.take_add_one, hx]; rfl
  rw [← e1, List.set_append_left _ _ (by rw [List.length_set]; exact hil), List.set_set] at KG
  replace KG := Lib.hid KG
  clear hst hlast hcs y0 y1 hiB hxn hv e1 hx
  go_wp2_with fail
  refine KG.out.mono ?_
  rintro e w3 ⟨rfl, s3⟩
  have S3 := Lib.hid s3
  clear s3
  go_wp2
  go_roundw
  case rel => exact ⟨k + 1, by omega, by go_num, S3.out⟩
  case measure => simp [intOf]; omega
end
end Go.Proofs.Ytiaojhjghededaa
