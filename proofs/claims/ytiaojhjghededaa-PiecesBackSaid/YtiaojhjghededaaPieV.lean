/- Layer 8: the answers that the document fixes are the program's. -/
import Derived.Test.YtiaojhjghededaaPieU
import Derived.Laws.BytesArg
import Derived.Lib.SmallJoins
namespace Go.Proofs.Ytiaojhjghededaa
open Go.RowKit
set_option linter.unusedVariables false
set_option maxRecDepth 100000
set_option maxHeartbeats 1600000
/-- Some things by themselves, among others; something may have been made since. -/
theorem St.rebase {w0 w v : World} {S0 : Nat → Prop} {A N : List Res} (h : St w0 S0 w (A ++ N)) (hv : Below w.heap.size w v) :
    ∃ S, St v S v A ∧ (∀ b, S b → b < w.heap.size ∧ (S0 b ∨ w0.heap.size ≤ b)) ∧ (∀ (j : Nat) (R : Res), N[j]? = some R → ∃ T, R v T ∧ ∀ b, T b → ¬ S b) ∧ ∀ w' A', St v S w' A' → St w0 S0 w' (A' ++ N) := by
  have hh := h.stay hv
  obtain ⟨S', ⟨F, f1, f2, f3, f4⟩, hd⟩ := h
  have hlt := (Star.ok (A ++ N)).lt ⟨F, f1, f2, f3, f4⟩
  have hA : Star A w (fun b => ∃ i, i < A.length ∧ F i b) := ⟨fun i b => i < A.length ∧ F i b, fun i R hR => by
      have hi : i < A.length := (List.getElem?_eq_some_iff.1 hR).1
      have e : (fun b => i < A.length ∧ F i b) = F i := funext fun b => propext ⟨fun h => h.2, fun h => ⟨hi, h⟩⟩
      dsimp only; rw [e]; exact f1 i R (by rw [List.getElem?_append_left hi]; exact hR), fun i j b hi hj => f2 i j b hi.2 hj.2, fun i b hi => hi.1, fun b => Iff.rfl⟩
  have hN : Star N w (fun b => ∃ i, A.length ≤ i ∧ F i b) := ⟨fun i b => F (A.length + i) b, fun i R hR => f1 (A.length + i) R (by rw [List.getElem?_append_right (by omega)]; rwa [Nat.add_sub_cancel_left]),
      fun i j b hi hj => by have := f2 _ _ b hi hj; omega, fun i b hi => by have := f3 _ b hi; simp at this; omega, fun b => ⟨fun ⟨i, hi, h⟩ => ⟨i - A.length, by dsimp only; rwa [Nat.add_sub_cancel' hi]⟩, fun ⟨i, h⟩ => ⟨A.length + i, by omega, h⟩⟩⟩
  have hltA : ∀ b, (∃ i, i < A.length ∧ F i b) → b < w.heap.size := fun b ⟨i, hi, hb⟩ => hlt b ((f4 b).2 ⟨i, hb⟩)
  have hltN : ∀ b, (∃ i, A.length ≤ i ∧ F i b) → b < w.heap.size := fun b ⟨i, hi, hb⟩ => hlt b ((f4 b).2 ⟨i, hb⟩)
  have hAv : Star A v (fun b => ∃ i, i < A.length ∧ F i b) := (Star.ok A).frame hA fun b hb => hv.block b (hltA b hb)
  have hNv : Star N v (fun b => ∃ i, A.length ≤ i ∧ F i b) := (Star.ok N).frame hN fun b hb => hv.block b (hltN b hb)
  have hdv : Did S0 S' w0 v := hd.trans (Did.below hv) hlt
  refine ⟨_, St.start hAv, fun b hb => ⟨hltA b hb, hb.elim fun i h => hd.own b ((f4 b).2 ⟨i, h.2⟩)⟩, fun j R hj => ?_, fun w' A' ⟨S2, hs2, hd2⟩ => ?_⟩
  · obtain ⟨o1, h1⟩ := f1 (A.length + j) R (by rw [List.getElem?_append_right (by omega)]; rwa [Nat.add_sub_cancel_left])
    refine ⟨F (A.length + j), o1.frame h1 fun b hb => hv.block b (hlt b ((f4 b).2 ⟨_, hb⟩)), fun b hb ⟨i, hi, hF⟩ => ?_⟩
    have := f2 _ _ b hF hb
    omega
  · have hfr : Star N w' (fun b => ∃ i, A.length ≤ i ∧ F i b) := (Star.ok N).frame hNv fun b ⟨i, hi, hb⟩ => hd2.block b ((Star.ok N).lt hNv b ⟨i, hi, hb⟩) fun ⟨j, hj, hb2⟩ => by
      have := f2 _ _ b hb hb2; omega
    refine ⟨_, Star.append hs2 hfr fun b h1 ⟨i, hi, hb⟩ => ?_, hdv.trans (S3 := fun b => S2 b ∨ ∃ i, A.length ≤ i ∧ F i b) ⟨hd2.os, hd2.tape, hd2.output, hd2.size, fun k hk hn => hd2.block k hk fun ⟨i, hi, hb⟩ => hn ((f4 k).2 ⟨i, hb⟩), fun b hb => ?_⟩ (fun b hb => Nat.lt_of_lt_of_le (hlt b hb) hv.size)⟩
    · rcases hd2.own b h1 with ⟨j, hj, hb2⟩ | h3
      · have := f2 _ _ b hb hb2; omega
      · have h4 := hltN b ⟨i, hi, hb⟩
        have h5 := hv.size
        omega
    · rcases hb with hb | ⟨i, hi, hb⟩
      · exact (hd2.own b hb).imp (fun ⟨i, hi, h⟩ => (f4 b).2 ⟨i, h⟩) id
      · exact Or.inl ((f4 b).2 ⟨i, hb⟩)
def pcl (ps : List Pc) : List Value := ps.flatMap fun p => [.int .i64 p.s, .int .u64 p.g, .int .i64 p.f, .int .i64 p.m]
theorem pcl_get : ∀ (ps : List Pc) (i : Nat) (p : Pc), ps[i]? = some p → (pcl ps)[i * 4]? = some (.int .i64 p.s) ∧ (pcl ps)[i * 4 + 1]? = some (.int .u64 p.g) ∧ (pcl ps)[i * 4 + 2]? = some (.int .i64 p.f) ∧ (pcl ps)[i * 4 + 3]? = some (.int .i64 p.m)
  | [], i, p, h => by simp at h
  | q :: r, 0, p, h => by
    have : q = p := by simpa using h
    subst this
    exact ⟨rfl, rfl, rfl, rfl⟩
  | q :: r, i + 1, p, h => by
    have := pcl_get r i p (by simpa using h)
    have e : pcl (q :: r) = [.int .i64 q.s, .int .u64 q.g, .int .i64 q.f, .int .i64 q.m] ++ pcl r := rfl
    rw [e, show (i + 1) * 4 = 4 + i * 4 by omega]
    refine ⟨?_, ?_, ?_, ?_⟩
    · rw [List.getElem?_append_right (by simp)]; simpa using this.1
    · rw [List.getElem?_append_right (by simp; omega)]
      rw [show 4 + i * 4 + 1 - [Value.int .i64 q.s, .int .u64 q.g, .int .i64 q.f, .int .i64 q.m].length = i * 4 + 1 by simp; omega]; exact this.2.1
    · rw [List.getElem?_append_right (by simp; omega)]
      rw [show 4 + i * 4 + 2 - [Value.int .i64 q.s, .int .u64 q.g, .int .i64 q.f, .int .i64 q.m].length = i * 4 + 2 by simp; omega]; exact this.2.2.1
    · rw [List.getElem?_append_right (by simp; omega)]
      rw [show 4 + i * 4 + 3 - [Value.int .i64 q.s, .int .u64 q.g, .int .i64 q.f, .int .i64 q.m].length = i * 4 + 3 by simp; omega]; exact this.2.2.2
theorem rdp_blk {w : World} {g : Nat} {t : TypeId} {ps : List Pc} (h : Blk w g t (pcl ps).toArray) : RdP w (some ⟨g, 0, none⟩) ps := fun i p hp => by
  obtain ⟨h1, h2, h3, h4⟩ := pcl_get ps i p hp
  refine ⟨g, 0, rfl, h.lt, ?_, ?_, ?_, ?_⟩ <;> rw [Nat.zero_add, h.cell] <;> simpa
/-- Bytes as a string. -/
theorem conv_bys {P : Program} (src e dst : TypeId) (hs : P.underlying src = some (.slice e)) (he : P.underlying e = some (.int .u8)) (hd : P.underlying dst = some .string) (w : World) (A : Option Addr) (cp : Nat) (xs : List Int) (hr : Rds w A xs.length 1 (bys xs)) :
    (convert src dst (.slice A xs.length cp)).run P w = .ok (.string (strOfNums xs)) w := by
  rcases hr.2 with h | ⟨g, o, rfl, hc⟩
  · have hx : xs = [] := List.eq_nil_of_length_eq_zero h
    subst hx
    cases A with
    | none => exact run_convert_bytes_nil (P := P) (w := w) src e hs he 0 cp dst hd
    | some a =>
      have := run_convert_bytes_string (P := P) w src dst e (some a) 0 cp hs he hd
      rw [show ([] : List Int).length = 0 from rfl, this]
      rfl
  · exact run_convert_bytes_arg w src e hs he g o xs.length cp xs rfl (fun i hi => by
      refine hc i _ ?_
      simp [bys, List.getD, hi]) dst hd
def pA : List Pc := [⟨0, 1, 0, 3⟩, ⟨0, 1, 5, 3⟩]
def bA : List Int := [97, 98, 99, 100, 101]
theorem mayA : mayL 6 (gs 4) pA = true := by decide
theorem ownA : ownsP 6 (gs 4) 1 (bufsP pA) = true := by decide
theorem mayA2 : mayL 6 (scaP pA bA (gs 4)) pA = true := by decide
theorem gatA : gatP (scaP pA bA (gs 4)) pA = [97, 98, 99, 100, 101, 0] := by decide
theorem lenA : lenP pA = 6 := by decide
theorem findA : findX 4 (comeP pA pA.length) = (1, 6, 0) := by kernel_rfl
theorem wfA : ∀ q ∈ pA, q.wf := fun q hq => by
  rcases List.mem_cons.1 hq with rfl | hq
  · unfold Pc.wf; decide
  · rcases List.mem_cons.1 hq with rfl | hq
    · unfold Pc.wf; decide
    · cases hq
theorem okA : POK 6 (scaP pA bA (gs 4)) 2 := ⟨by omega, by omega, by omega, fun i hi => by
  rcases (show i = 0 ∨ i = 1 ∨ i = 2 ∨ i = 3 ∨ i = 4 ∨ i = 5 by omega) with rfl | rfl | rfl | rfl | rfl | rfl <;> decide⟩
theorem giveA : Via 6 (scaP pA bA (gs 4)) 0 1 (GiveB 2 1) 8 (scaP pA bA (gs 4)) := Or.inr ⟨0, _, by decide, rfl, by decide, by decide, Or.inr (Or.inl ⟨by decide, by decide, rfl, rfl⟩), (updB_id _ _).symm⟩
theorem bufsA : bufsP pA = (0, 1) :: [] := by decide
theorem cyP (p n : Nat) (st : Nat → Buf) : ∀ R ∈ [PoolR p n st], Cy 42 R := Cy.cons (Cy.pool p n st (by decide) (by decide) (by decide)) Cy.nil
theorem none_not {S : Nat → Prop} {g : Nat} (h : ¬ S g) : notIn (some ⟨g, 0, none⟩) S := fun g' o e => by
  injection e with e
  injection e with e
  rw [← e]; exact h
section
variable {w0 w : World} {S S0 : Nat → Prop} {N L : List Res}
theorem awake_any (w : World) : Calls Try.prog 7 #[] w fun e w' => e = .returned (.bool true) ∧ Below w.heap.size w w' := by
  have BO := Lib.hid (both_o (St.begin w))
  go_enter Try.func7, Try.ntmps7
  go_wp2_with fail
  refine BO.out.mono ?_
  rintro e w1 ⟨p, r, rfl, s1'⟩
  have s1 : St w None w1 [PoolR p 6 (gs 4)] := s1'
  have s2 : St w None _ ([PoolR p 6 (gs 4)] ++ [BlkR w1.heap.size 40 #[.int .i64 0, .int .u64 1], BlkR (w1.heap.size + 1) 42 (pcl pA).toArray]) := (s1.box2 40 42 #[.int .i64 0, .int .u64 1] #[.int .i64 0, .int .u64 1, .int .i64 0, .int .i64 3, .int .i64 0, .int .u64 1, .int .i64 5, .int .i64 3])
  obtain ⟨hc0, hc1⟩ := (Blk.new w1 40 #[.int .i64 0, .int .u64 1]).two
  have hcv := Go.Joins.run_convert_bytes_const_at (P := Try.prog) ((w1.alloc (.cells #[.int .i64 0, .int .u64 1] 40)).alloc (.cells #[.int .i64 0, .int .u64 1, .int .i64 0, .int .i64 3, .int .i64 0, .int .u64 1, .int .i64 5, .int .i64 3] 42)) 23 5 #[.int .u8 97, .int .u8 98, .int .u8 99, .int .u8 100, .int .u8 101] 5 5 (w1.heap.size + 1 + 1) (by simp) Try.underlying23 Try.underlying5
  have hrd : Rds (((w1.alloc (.cells #[.int .i64 0, .int .u64 1] 40)).alloc (.cells #[.int .i64 0, .int .u64 1, .int .i64 0, .int .i64 3, .int .i64 0, .int .u64 1, .int .i64 5, .int .i64 3] 42)).alloc (.cells #[.int .u8 97, .int .u8 98, .int .u8 99, .int .u8 100, .int .u8 101] 5 (5, 6))) (some ⟨w1.heap.size + 1 + 1, 0, none⟩) bA.length 1 (bys bA) := by
    refine ⟨rfl, Or.inr ⟨_, _, rfl, fun j u hu => ?_⟩⟩
    rw [Nat.zero_add, Go.Joins.cell_alloc_mark_at _ _ _ _ _ j (by simp)]
    have hu : ([.int .u8 97, .int .u8 98, .int .u8 99, .int .u8 100, .int .u8 101] : List Value)[j]? = some u := hu
    simpa using hu
  have hz2 : ((w1.alloc (.cells #[.int .i64 0, .int .u64 1] 40)).alloc (.cells #[.int .i64 0, .int .u64 1, .int .i64 0, .int .i64 3, .int .i64 0, .int .u64 1, .int .i64 5, .int .i64 3] 42)).heap.size = w1.heap.size + 1 + 1 := by simp
  obtain ⟨S, t3, tl, tn, tb⟩ := s2.rebase ((Below.refl _ _).alloc (Nat.le_refl _) (.cells #[.int .u8 97, .int .u8 98, .int .u8 99, .int .u8 100, .int .u8 101] 5 (5, 6)))
  have hrp := (rdp_blk (s2.blk 2 rfl)).on ((Below.refl _ _).alloc (Nat.le_refl _) (.cells #[.int .u8 97, .int .u8 98, .int .u8 99, .int .u8 100, .int .u8 101] 5 (5, 6)))
  have hnl : notIn (some ⟨w1.heap.size + 1, 0, none⟩) S := none_not ((tn 1 _ rfl).elim fun T h => h.2 _ ((h.1.2 _).2 rfl))
  have hnb : notIn (some ⟨w1.heap.size + 1 + 1, 0, none⟩) S := none_not fun h => by
    have := (tl _ h).1
    omega
  have KS := Lib.hid (scatter_o t3 0 rfl (cyP _ _ _) (gs_ok 4 (by omega)) (some ⟨w1.heap.size + 1, 0, none⟩) 2 pA (by decide) (by unfold maxLen; omega) wfA hrp hnl mayA 1 ownA (some ⟨w1.heap.size + 1 + 1, 0, none⟩) 5 bA (by decide) (by unfold maxLen; omega) hrd (Or.inr hnb))
  have HG := Lib.hid (fun (W : World) (h : St _ S W [PoolR p 6 (scaP pA bA (gs 4))]) => gather_o h 0 rfl (cyP _ _ _) okA (some ⟨w1.heap.size + 1, 0, none⟩) 2 pA (by decide) (by unfold maxLen; omega) wfA hrp hnl mayA2)
  have HF := Lib.hid (fun (W : World) (h : RdP W (some ⟨w1.heap.size + 1, 0, none⟩) pA) => find_o (some ⟨w1.heap.size + 1, 0, none⟩) 2 pA 4 W (by decide) wfA h)
  have HL := Lib.hid (fun (W : World) (h : RdP W (some ⟨w1.heap.size + 1, 0, none⟩) pA) => len_o (some ⟨w1.heap.size + 1, 0, none⟩) 2 pA W (by decide) wfA h)
  have HV := Lib.hid (fun (W : World) (h : St _ S W [PoolR p 6 (scaP pA bA (gs 4))]) => give_first h 0 rfl okA (some ⟨w1.heap.size + 1, 0, none⟩) 2 pA (by decide) (by decide) (by unfold maxLen; omega) wfA hrp hnl 2 1 mayA2 bufsA giveA (by omega))
  have HR := Lib.hid hrp
  have HN := Lib.hid hnl
  have HB := Lib.hid tb
  have HS2 := Lib.hid (s2.below)
  have hbw := Lib.hid ((Below.refl _ ((w1.alloc (.cells #[.int .i64 0, .int .u64 1] 40)).alloc (.cells #[.int .i64 0, .int .u64 1, .int .i64 0, .int .i64 3, .int .i64 0, .int .u64 1, .int .i64 5, .int .i64 3] 42))).alloc (Nat.le_refl _) (.cells #[.int .u8 97, .int .u8 98, .int .u8 99, .int .u8 100, .int .u8 101] 5 (5, 6)))
  rw [gatA] at HG
  rw [findA] at HF
  rw [lenA] at HL KS
  rw [show min (6 : Int) (bA.length : Int) = 5 from by decide] at KS
  clear s2 hrd hz2 t3 tl tn tb hrp hnl hnb s1 s1' BO
  go_wp2_with fail
  refine KS.out.mono ?_
  rintro e w4 ⟨rfl, s4'⟩
  have s4 : St _ S w4 [PoolR p 6 (scaP pA bA (gs 4))] := s4'
  have K5 := Lib.hid (HG.out _ s4)
  clear s4 s4' KS
  go_wp2_with fail
  refine K5.out.mono ?_
  rintro e w5 ⟨B, c, rfl, s5⟩
  have s5 : St _ S w5 [LisR 5 1 (.slice B 6 c) 6 (bys [97, 98, 99, 100, 101, 0]), PoolR p 6 (scaP pA bA (gs 4))] := s5
  obtain ⟨A', c', ev, hcn, hcm, -, hcc⟩ := s5.lis_cells 0 rfl
  injection ev with ev1 _ ev2
  subst ev1; subst ev2
  obtain ⟨g, off, rfl, hcl⟩ := hcc.resolve_left (by omega)
  have K6 := Lib.hid (HF.out w5 (s5.rdp HR.out HN.out))
  have S5 := Lib.hid s5
  clear K5 s5 hcl hcc
  go_wp2_with fail
  refine K6.out.mono ?_
  rintro e w6 ⟨rfl, hb6⟩
  have s6 := S5.out.stay hb6
  have hcc := (s6.lis 0 rfl).reads.2.resolve_left (by omega)
  obtain ⟨g2, o2', he, hcl⟩ := hcc
  injection he with he
  injection he with he1 he2
  subst he1; subst he2
  have q5 : w6.cell? ⟨g, off + 5, none⟩ = some (.int .u8 0) := hcl 5 _ rfl
  have hcv2 := conv_bys (P := Try.prog) 23 5 9 Try.underlying23 Try.underlying5 Try.underlying9 w6 (some ⟨g, off, none⟩) c bA ⟨rfl, Or.inr ⟨g, off, rfl, fun j u hu => hcl j u (by
    rw [show bys [97, 98, 99, 100, 101, 0] = bys bA ++ [.int .u8 0] from rfl, List.getElem?_append_left (List.getElem?_eq_some_iff.1 hu).1]
    exact hu)⟩⟩
  rw [show strOfNums bA = ⟨#[97, 98, 99, 100, 101]⟩ from rfl, show bA.length = 5 from rfl] at hcv2
  have K7 := Lib.hid (HL.out w6 (s6.rdp HR.out HN.out))
  have S6 := Lib.hid (show St _ S w6 [PoolR p 6 (scaP pA bA (gs 4))] from s6.drop 0 (by simp))
  clear s6 hcl K6 hcv
  go_wp2_with fail
  refine K7.out.mono ?_
  rintro e w7 ⟨rfl, hb7⟩
  have K8 := Lib.hid (HV.out w7 (S6.out.stay hb7))
  clear hb7 K7 S6 q5 hcv2
  go_wp2_with fail
  refine K8.out.mono ?_
  rintro e w8 ⟨rfl, s8⟩
  go_wp2_with fail
  go_ret
  exact ⟨rfl, (HB.out _ _ s8).below⟩
theorem awake_o (H : St w0 S0 w L) : Calls Try.prog 7 #[] w fun e w' => e = .returned (.bool true) ∧ St w0 S0 w' L := looks (awake_any w) H
end
end Go.Proofs.Ytiaojhjghededaa
