/- Layer 8: the buffers of a list, each once. -/
import Derived.Test.YtiaojhjghededaaPieC
import Derived.Test.YtiaojhjghededaaMapH
namespace Go.Proofs.Ytiaojhjghededaa
open Go.RowKit
set_option linter.unusedVariables false
set_option maxRecDepth 100000
set_option maxHeartbeats 4000000
theorem info3h {P : Program} {e : TypeId} {z : Value} {m b : Nat} (h : (P.info? e).map (fun i => (i.zero, i.size, i.bytes)) = some (some z, m, b)) : ∃ i, P.info? e = some i ∧ i.zero = some z ∧ i.size = m ∧ i.bytes = b := by
  cases hi : P.info? e with
  | none => rw [hi] at h; cases h
  | some i => rw [hi] at h; simp at h; exact ⟨i, rfl, h.1, h.2.1, h.2.2⟩
theorem kh : KH Try.prog 40 := ⟨Maps.Keyed.of_law (deep_law_laid (by kernel_rfl) (m := 2) (by omega) (of_decide_eq_true (by kernel_rfl)) (by kernel_rfl) (by rw [Try.underlying40])), fun x hx => by
  obtain ⟨h1, h2⟩ := hx
  have hkt : Try.prog.keyType 40 = true := by kernel_rfl
  have hc : Try.prog.cellsOf 40 = 2 := by kernel_rfl
  have c1 : Try.prog.cellsOf 3 = 1 := by kernel_rfl
  have c2 : Try.prog.cellsOf 38 = 1 := by kernel_rfl
  obtain ⟨m, hm⟩ : ∃ m, Try.prog.types.size = m + 1 := ⟨Try.prog.types.size - 1, by have : 0 < Try.prog.types.size := of_decide_eq_true (by kernel_rfl); omega⟩
  unfold keyOf hv hl
  simp only [Try.underlying40]
  rw [if_pos (by simp [hkt, Value.formed, Try.underlying40, hc]), hm]
  unfold Program.keyLits
  simp only [Try.underlying40, Value.cells]
  rw [if_pos ⟨by rw [hc]; rfl, by kernel_rfl⟩]
  simp [Program.keyLits, Try.underlying3, Try.underlying38, c1, c2, h1, h2]⟩
def addH (l : List (Int × Int)) (x : Int × Int) : List (Int × Int) := if x ∈ l then l else l ++ [x]
def bufsP (ps : List Pc) : List (Int × Int) := ps.foldl (fun l p => addH l (p.s, p.g)) []
def hCs (l : List (Int × Int)) : List Value := l.flatMap fun x => [.int .i64 x.1, .int .u64 x.2]
theorem hCs_app (a b : List (Int × Int)) : hCs (a ++ b) = hCs a ++ hCs b := by unfold hCs; rw [List.flatMap_append]
theorem hCs_len : ∀ l : List (Int × Int), (hCs l).length = l.length * 2
  | [] => rfl
  | x :: l => by
    have := hCs_len l
    unfold hCs at this ⊢
    rw [List.flatMap_cons, List.length_append, this]
    show 2 + _ = (l.length + 1) * 2
    omega
theorem hCs_get {l : List (Int × Int)} {i : Nat} {x : Int × Int} (h : l[i]? = some x) : (hCs l)[i * 2]? = some (.int .i64 x.1) ∧ (hCs l)[i * 2 + 1]? = some (.int .u64 x.2) := by
  induction l generalizing i with
  | nil => cases h
  | cons y l ih =>
    have e : hCs (y :: l) = .int .i64 y.1 :: .int .u64 y.2 :: hCs l := by unfold hCs; rw [List.flatMap_cons]; rfl
    rw [e]
    cases i with
    | zero => injection h with h; subst h; exact ⟨rfl, rfl⟩
    | succ i =>
      rw [List.getElem?_cons_succ] at h
      have := ih h
      rw [show (i + 1) * 2 = i * 2 + 1 + 1 by omega]
      exact this
theorem bufs_snoc (ps : List Pc) (p : Pc) : bufsP (ps ++ [p]) = addH (bufsP ps) (p.s, p.g) := by unfold bufsP; rw [List.foldl_append]; rfl
theorem addH_len (l : List (Int × Int)) (x : Int × Int) : (addH l x).length ≤ l.length + 1 := by
  unfold addH
  split
  · omega
  · rw [List.length_append]; exact Nat.le_refl _
theorem bufs_from : ∀ (ps : List Pc) (l : List (Int × Int)), (ps.foldl (fun l p => addH l (p.s, p.g)) l).length ≤ l.length + ps.length
  | [], l => Nat.le_refl _
  | p :: r, l => by
    have h1 := bufs_from r (addH l (p.s, p.g))
    have h2 := addH_len l (p.s, p.g)
    rw [List.foldl_cons, List.length_cons]
    omega
theorem bufs_len (ps : List Pc) : (bufsP ps).length ≤ ps.length := by
  have := bufs_from ps []
  unfold bufsP
  simpa using this
def seenM (l : List (Int × Int)) (M : Int × Int → Option Value) : Prop := ∀ x, (M x).isSome = true ↔ x ∈ l
theorem Pc.keys {p : Pc} (h : p.wf) : wfH (p.s, p.g) := by
  obtain ⟨h1, h2, _⟩ := h
  constructor
  · simp [Lit.wf, IntKind.min, IntKind.max, IntKind.signed, IntKind.bits]; omega
  · simp [Lit.wf, IntKind.min, IntKind.max, IntKind.signed, IntKind.bits]; omega
theorem zero_int8 (w : World) : (zeroValue 3).run Try.prog w = .ok (.int .i64 0) w := by kernel_rfl
theorem rds_box28 (w : World) (e : TypeId) (u v : Value) : Rds (w.alloc (.cells #[u, v] e)) (some ⟨w.heap.size, 0, none⟩) 1 2 [u, v] :=
  ⟨rfl, Or.inr ⟨_, _, rfl, fun j y hy => by
    match j, hy with
    | 0, hy => rw [(Blk.new w e #[u, v]).cell]; simpa using hy
    | 1, hy => rw [(Blk.new w e #[u, v]).cell]; simpa using hy
    | j + 2, hy => simp at hy⟩⟩
theorem YtiaojhjghededaaiH : (Try.prog.info? 40).map (fun i => (i.zero, i.size, i.bytes)) = some (some (.agg #[.int .i64 0, .int .u64 0]), 2, 16) := by kernel_rfl
theorem bufs_o (A : Option Addr) (cap : Nat) (ps : List Pc) (hwf : ∀ p ∈ ps, p.wf) (hlen : ps.length ≤ 1000) (w : World) (hR : RdP w A ps) :
    Calls Try.prog 29 #[.slice A ps.length cap] w fun e w' => ∃ B c, e = .returned (.slice B (bufsP ps).length c) ∧ St w None w' [LisR 40 2 (.slice B (bufsP ps).length c) (bufsP ps).length (hCs (bufsP ps))] := by
  obtain ⟨iH, hiH, hzH, hsH, hbH⟩ := info3h YtiaojhjghededaaiH
  obtain ⟨F, hF⟩ : ∃ F, bufsP ps = F := ⟨_, rfl⟩
  rw [hF]
  have HF := Lib.hid hF
  have HR := Lib.hid hR
  have HWF := Lib.hid hwf
  have s0 := ((St.begin w).lis_nil 40 2).maph_new Try.prog 40
  obtain ⟨b, hb⟩ : ∃ b, w.heap.size = b := ⟨_, rfl⟩
  rw [hb] at s0
  have S0 := Lib.hid s0
  clear hF hR hwf s0
  go_enter Try.func29, Try.ntmps29
  have hmm := @run_makeMap Try.prog
  go_wp2
  go_loopw [3, 5, 6, 7, 8, 12] (fun x3 _ _ _ _ x12 wr => ∃ (k c : Nat) (B : Option Addr) (M : Int × Int → Option Value), k ≤ ps.length ∧ x12 = .int .i64 (k : Int) ∧ x3 = .slice B (bufsP (ps.take k)).length c ∧ seenM (bufsP (ps.take k)) M ∧ St w None wr [LisR 40 2 (.slice B (bufsP (ps.take k)).length c) (bufsP (ps.take k)).length (hCs (bufsP (ps.take k))), MapHR Try.prog 40 b (bufsP (ps.take k)).length M]) (fun _ _ _ _ _ x12 _ => ps.length - (intOf x12).toNat)
  case atStart => exact ⟨0, 0, none, fun _ => none, Nat.zero_le _, rfl, rfl, fun x => ⟨fun h => (by cases h), fun h => (by cases h)⟩, S0.out⟩
  case round =>
  obtain ⟨k, cB, B, M, hk, rfl, rfl, hM, hst⟩ := hrel
  clear hmm
  by_cases hlt : k < ps.length
  rotate_left 1
  · obtain rfl : k = ps.length := by omega
    have z0 : decide ((ps.length : Int) < (ps.length : Int)) = false := decide_eq_false (by omega)
    have HST := Lib.hid (hst.take 1)
    have HF2 := Lib.hid (show F = bufsP (ps.take ps.length) by rw [List.take_length]; exact HF.out.symm)
    clear hst hM
    go_wp2
    go_ret
    exact ⟨B, cB, (by rw [HF2.out]; rfl), by rw [HF2.out]; exact HST.out⟩
  obtain ⟨c, hc⟩ : ∃ c, ps[k]? = some c := ⟨ps[k]'hlt, List.getElem?_eq_getElem hlt⟩
  have hx := Pc.keys (HWF.out c (List.mem_of_getElem? hc))
  obtain ⟨g, off, hA, hg, d0, d1, d2, d3⟩ := (HR.out.on hst.below) k c hc
  subst hA
  have z0 : decide ((k : Int) < (ps.length : Int)) = true := decide_eq_true (by omega)
  have e1 : bufsP (ps.take (k + 1)) = addH (bufsP (ps.take k)) (c.s, c.g) := by
    rw [← bufs_snoc, List.take_add_one, hc]; rfl
  have hbl := bufs_len (ps.take k)
  rw [List.length_take] at hbl
  obtain ⟨l, hl⟩ : ∃ l, bufsP (ps.take k) = l := ⟨_, rfl⟩
  rw [hl] at e1 hM hst hbl ⊢
  have hst2 := hst.box 42 #[.int .i64 c.s, .int .u64 c.g, .int .i64 c.f, .int .i64 c.m]
  have hlk := (hst2.maph 1 rfl).look kh Try.underlying89 (zero_int8 _) hx
  have hmx := hM (c.s, c.g)
  obtain ⟨p0, p1, p2, p3⟩ := (hst2.blk 2 rfl).four
  have HE1 := Lib.hid e1
  have HM := Lib.hid hM
  have HX := Lib.hid hx
  have T2 := Lib.hid hst2
  clear e1 hM hst hst2 hx hc hl
  cases hv' : M (c.s, c.g) with
  | some v =>
    rw [hv'] at hlk hmx
    have hmem : (c.s, c.g) ∈ l := hmx.1 rfl
    have HE2 := Lib.hid (show bufsP (ps.take (k + 1)) = l by rw [HE1.out]; unfold addH; rw [if_pos hmem])
    unfold hv at hlk
    clear hmx hmem hv'
    go_wp2
    go_roundw
    case rel => exact ⟨k + 1, cB, B, M, by omega, by go_num, by rw [HE2.out], by rw [HE2.out]; exact HM.out, by rw [HE2.out]; exact T2.out.take 2⟩
    case measure => simp [intOf]; omega
  | none =>
    rw [hv'] at hlk hmx
    have hmem : (c.s, c.g) ∉ l := fun h => by have := hmx.2 h; cases this
    have HE2 := Lib.hid (show bufsP (ps.take (k + 1)) = l ++ [(c.s, c.g)] by rw [HE1.out]; unfold addH; rw [if_neg hmem])
    have HM2 := Lib.hid (show seenM (l ++ [(c.s, c.g)]) (updH M (c.s, c.g) (some (.int .i64 (k : Int)))) from fun y => by
      unfold updH
      by_cases hy : y = (c.s, c.g)
      · rw [if_pos hy, hy]; simp
      · rw [if_neg hy, HM.out y]; simp [hy])
    have MP := Lib.hid (T2.out.maph 1 rfl)
    unfold hv at hlk
    clear hmx hmem hv'
    go_wp2_with (first
      | (at_mapUpdate; refine wpList_mapH_put kh rfl _ _ _ 89 rfl 3 Try.underlying89 b l.length M rfl MP.out (by unfold maxLen; omega) (c.s, c.g) HX.out (.int .i64 (k : Int)) rfl rfl ?_; intro w3 hm3 hg3; have t3 := T2.out.maph_turn 1 rfl hm3 hg3; obtain ⟨q0, q1, q2, q3⟩ := (t3.blk 2 rfl).four; have T4 := Lib.hid (t3.alloc (.cells #[.int .i64 c.s, .int .u64 c.g] 40)); have HL := Lib.hid (T4.out.lis 0 rfl); have RB := Lib.hid (rds_box28 w3 40 (.int .i64 c.s) (.int .u64 c.g)); clear hm3 hg3 t3)
      | (at_builtin; refine wpList_lis rfl (.tmp 30) (.tmp 33) 73 rfl 40 iH (.agg #[.int .i64 0, .int .u64 0]) 2 16 Try.underlying73 hiH hzH hsH hbH rfl (by decide) _ _ _ rfl HL.out _ 1 1 [.int .i64 c.s, .int .u64 c.g] rfl RB.out (by simp [Value.oneCell']) (by unfold maxLen; omega) (by omega) ?_; intro B6 c6 w6 hl6 hg6 hat6; have S6 := Lib.hid ((T4.out.lis_put 0 rfl hl6 hg6 hat6).take 2); clear hl6 hg6 hat6)
      | fail)
    go_roundw
    case rel => exact ⟨k + 1, c6, B6, updH M (c.s, c.g) (some (.int .i64 (k : Int))), by omega, by go_num, by rw [HE2.out, List.length_append]; rfl, by rw [HE2.out]; exact HM2.out, by rw [HE2.out, List.length_append, hCs_app]; exact S6.out⟩
    case measure => simp [intOf]; omega
end Go.Proofs.Ytiaojhjghededaa
