/- Layer 16: who runs ahead; what they take. -/
import Derived.Test.YtdemhhmceiaohaaRtaT
namespace Go.Proofs.Ytdemhhmceiaohaa
open Go.RowKit
set_option linter.unusedVariables false
set_option maxRecDepth 100000
set_option maxHeartbeats 1000000
theorem Try.infoTk : (Try.prog.info? 133).map (fun i => (i.zero, i.size, i.bytes)) = some (some (.agg #[.int .u64 0, .int .u64 0]), 2, 16) := by kernel_rfl
theorem rinfo_parts {P : Program} {t : TypeId} {z : Value} {s b : Nat} (h : (P.info? t).map (fun i => (i.zero, i.size, i.bytes)) = some (some z, s, b)) : ∃ i, P.info? t = some i ∧ i.zero = some z ∧ i.size = s ∧ i.bytes = b := by
  cases hi : P.info? t with
  | none => rw [hi] at h; cases h
  | some i =>
    rw [hi] at h
    simp at h
    exact ⟨i, rfl, h.1, h.2.1, h.2.2⟩
def tkc : List Tk → List Value
  | [] => []
  | a :: l => .int .u64 (a.1 : Nat) :: .int .u64 (a.2 : Nat) :: tkc l
theorem tkc_len : ∀ l, (tkc l).length = l.length * 2
  | [] => rfl
  | a :: l => by simp only [tkc, List.length_cons, tkc_len l]; omega
theorem tkc_app : ∀ l m, tkc (l ++ m) = tkc l ++ tkc m
  | [], m => rfl
  | a :: l, m => by simp only [List.cons_append, tkc, tkc_app l m]
theorem tkc_at : ∀ (l : List Tk) (i : Nat) (a : Tk), l[i]? = some a → (tkc l)[i * 2]? = some (.int .u64 (a.1 : Nat)) ∧ (tkc l)[i * 2 + 1]? = some (.int .u64 (a.2 : Nat))
  | [], i, a, h => by simp at h
  | b :: l, 0, a, h => by
    simp at h
    subst h
    exact ⟨rfl, rfl⟩
  | b :: l, i + 1, a, h => by
    have h2 := tkc_at l i a (by simpa using h)
    refine ⟨?_, ?_⟩
    · rw [show (i + 1) * 2 = i * 2 + 1 + 1 by omega]; simpa [tkc] using h2.1
    · rw [show (i + 1) * 2 + 1 = i * 2 + 1 + 1 + 1 by omega]; simpa [tkc] using h2.2
abbrev TkR (B : Option Addr) (cp : Nat) (l : List Tk) : Res := LisR 133 2 (.slice B l.length cp) l.length (tkc l)
/-- Takers that can be read. -/
def TkRd (w : World) (A : Option Addr) (l : List Tk) : Prop := 0 < l.length → ∃ b off, A = some ⟨b, off, none⟩ ∧ b < w.heap.size ∧ ∀ j a, l[j]? = some a → w.cell? ⟨b, off + j * 2, none⟩ = some (.int .u64 (a.1 : Nat)) ∧ w.cell? ⟨b, off + j * 2 + 1, none⟩ = some (.int .u64 (a.2 : Nat))
theorem TkRd.at_ {w wr : World} {A : Option Addr} {l : List Tk} (h : TkRd w A l) (hb : Below w.heap.size w wr) {k : Nat} {a : Tk} (hk : l[k]? = some a) :
    ∃ b off, A = some ⟨b, off, none⟩ ∧ wr.cell? ⟨b, off + k * 2, none⟩ = some (.int .u64 (a.1 : Nat)) ∧ wr.cell? ⟨b, off + k * 2 + 1, none⟩ = some (.int .u64 (a.2 : Nat)) := by
  have hlt : k < l.length := by
    rcases Nat.lt_or_ge k l.length with h | h
    · exact h
    · rw [List.getElem?_eq_none h] at hk; cases hk
  obtain ⟨b, off, e, hb2, hc⟩ := h (by omega)
  obtain ⟨c0, c1⟩ := hc k a hk
  exact ⟨b, off, e, (hb.cell (p := ⟨b, off + k * 2, none⟩) hb2).trans c0, (hb.cell (p := ⟨b, off + k * 2 + 1, none⟩) hb2).trans c1⟩
theorem TkRd.below {w w' : World} {A : Option Addr} {l : List Tk} (h : TkRd w A l) (hb : Below w.heap.size w w') : TkRd w' A l := by
  intro hn
  obtain ⟨b, off, e, hb2, hc⟩ := h hn
  refine ⟨b, off, e, Nat.lt_of_lt_of_le hb2 hb.size, fun j a ha => ?_⟩
  obtain ⟨c0, c1⟩ := hc j a ha
  exact ⟨(hb.cell (p := ⟨b, off + j * 2, none⟩) hb2).trans c0, (hb.cell (p := ⟨b, off + j * 2 + 1, none⟩) hb2).trans c1⟩
theorem St.tkrd {w0 w : World} {S0 : Nat → Prop} {L : List Res} {B : Option Addr} {cp : Nat} {l : List Tk} (s : St w0 S0 w L) (i : Nat) (hi : L[i]? = some (TkR B cp l)) : TkRd w B l := by
  intro hn
  have hl := s.lis i hi
  rcases hl.reads.2 with h | ⟨g, o, rfl, hc⟩
  · omega
  · refine ⟨g, o, rfl, hl.lt (g := g) rfl, fun j a ha => ?_⟩
    obtain ⟨a0, a1⟩ := tkc_at l j a ha
    exact ⟨hc _ _ a0, by rw [Nat.add_assoc]; exact hc _ _ a1⟩
def ldt (s : Ld) : Tk := (s.b.toNat, s.per.toNat)
def wkt (x : Wk) : Tk := (x.cost.toNat, x.per.toNat)
def ldl (S : Nat → Ld) : Nat → List Tk
  | 0 => []
  | k + 1 => ldl S k ++ [ldt (S k)]
theorem ldl_len (S : Nat → Ld) : ∀ k, (ldl S k).length = k
  | 0 => rfl
  | k + 1 => by simp [ldl, ldl_len S k]
/-- Those of the first k tasks that run ahead of i. -/
def aht (T : Nat → Wk) (i : Nat) : Nat → List Tk
  | 0 => []
  | k + 1 => aht T i k ++ if k ≠ i ∧ (T k).prio ≤ (T i).prio then [wkt (T k)] else []
theorem aht_len (T : Nat → Wk) (i : Nat) : ∀ k, (aht T i k).length ≤ k
  | 0 => Nat.le_refl _
  | k + 1 => by have := aht_len T i k; simp only [aht, List.length_append]; split <;> simp <;> omega
def whoL (T : Nat → Wk) (S : Nat → Ld) (n m i : Nat) : List Tk := ldl S m ++ aht T i n
theorem ldl_ok {S : Nat → Ld} {m : Nat} (h : ∀ j, j < m → (S j).ok) : ∀ k, k ≤ m → TkOK (ldl S k)
  | 0, _ => fun a ha => by cases ha
  | k + 1, hk => fun a ha => by
    rcases List.mem_append.1 ha with ha | ha
    · exact ldl_ok h k (by omega) a ha
    · obtain rfl := List.mem_singleton.1 ha
      obtain ⟨h1, h2, h3, h4⟩ := h k (by omega)
      unfold ldt; dsimp only; omega
theorem aht_ok {T : Nat → Wk} {i n : Nat} (h : ∀ j, j < n → (T j).ok) : ∀ k, k ≤ n → TkOK (aht T i k)
  | 0, _ => fun a ha => by cases ha
  | k + 1, hk => fun a ha => by
    rcases List.mem_append.1 ha with ha | ha
    · exact aht_ok h k (by omega) a ha
    · split at ha
      · obtain rfl := List.mem_singleton.1 ha
        obtain ⟨-, h2, h3, h4, h5⟩ := h k (by omega)
        unfold wkt; dsimp only; omega
      · cases ha
theorem TkOK.app {l m : List Tk} (h : TkOK l) (k : TkOK m) : TkOK (l ++ m) := fun a ha => (List.mem_append.1 ha).elim (h a) (k a)
theorem whoL_ok {T : Nat → Wk} {S : Nat → Ld} {n m i : Nat} (hT : TOK n T) (hS : LOK m S) : TkOK (whoL T S n m i) := (ldl_ok hS.2 m (Nat.le_refl _)).app (aht_ok hT.2 n (Nat.le_refl _))
theorem whoL_len {T : Nat → Wk} {S : Nat → Ld} {n m i : Nat} (hT : TOK n T) (hS : LOK m S) : (whoL T S n m i).length ≤ 48 := by
  have := aht_len T i n
  have h1 := hT.1
  have h2 := hS.1
  simp only [whoL, List.length_append, ldl_len]; omega
section
variable {w0 w : World} {A B : Option Addr} {n m cap capB : Nat} {T : Nat → Wk} {S : Nat → Ld}
theorem takers_c (rd : Ls w A m S) (hS : LOK m S) :
    Calls Try.prog 34 #[.slice A m cap] w fun e w' => ∃ B cp, e = .returned (.slice B m cp) ∧ St w None w' [TkR B cp (ldl S m)] := by
  obtain ⟨hm, hok⟩ := hS
  obtain ⟨iK, hiK, hzK, hsK, hbK⟩ := rinfo_parts Try.infoTk
  have HOK := Lib.hid hok
  have RD := Lib.hid rd
  clear rd hok
  go_enter Try.func34, Try.ntmps34
  go_wp2_with fail
  go_loopw [3, 8] (fun l i wr => ∃ (k : Nat) (B : Option Addr) (cp : Nat), k ≤ m ∧ i = .int .i64 k ∧ l = .slice B k cp ∧ St w None wr [TkR B cp (ldl S k)]) (fun _ i _ => m - (intOf i).toNat)
  case atStart => exact ⟨0, none, 0, by omega, rfl, rfl, (St.begin w).lis_nil 133 2⟩
  case round =>
    obtain ⟨k, B, cp, hk, rfl, rfl, sr⟩ := hrel
    by_cases hlt : k < m
    · obtain ⟨ib, off, rfl, e0, e1⟩ := RD.out.at_ sr.below hlt
      obtain ⟨o1, o2, o3, o4⟩ := HOK.out k hlt
      have HN := Lib.hid (show ldl S (k + 1) = ldl S k ++ [ldt (S k)] from rfl)
      have hl := ldl_len S k
      obtain ⟨x, hx⟩ : ∃ x, S k = x := ⟨_, rfl⟩
      rw [hx] at e0 e1 o1 o2 o3 o4 HN
      obtain ⟨p, r⟩ := x
      dsimp only at e0 e1 o1 o2 o3 o4
      have hw : IntKind.u64.wrap p = p := IntWalk.u64_in _ ⟨by omega, by omega⟩
      have s2 : St w None (wr.alloc (.cells (Ld.cells ⟨p, r⟩) 47)) [TkR B cp (ldl S k), _] := sr.box 47 (Ld.cells ⟨p, r⟩)
      obtain ⟨c0, c1⟩ := (s2.blk 1 rfl).two
      have s3 := s2.alloc (.cells #[.int .u64 p, .int .u64 r] 133)
      have hl3 := s3.lis 0 rfl
      have hr3 := rds_box2 (wr.alloc (.cells (Ld.cells ⟨p, r⟩) 47)) 133 (.int .u64 p) (.int .u64 r)
      rw [show (wr.alloc (.cells (Ld.cells ⟨p, r⟩) 47)).heap.size = wr.heap.size + 1 by simp] at hr3
      rw [hl] at hl3
      have HE := Lib.hid (show [Value.int .u64 p, .int .u64 r] = tkc [ldt ⟨p, r⟩] by
        show _ = [Value.int .u64 ((p.toNat : Nat) : Int), .int .u64 ((r.toNat : Nat) : Int)]
        rw [Int.toNat_of_nonneg (by omega), Int.toNat_of_nonneg (by omega)])
      have HM := Lib.hid hm
      have HK := Lib.hid hk
      have HL := Lib.hid hlt
      have HLN := Lib.hid hl
      clear sr s2 hx o1 o2 o3 o4 hl
      go_wp2_with (at_builtin; refine wpList_lis rfl (.tmp 12) (.tmp 19) 90 rfl 133 iK (.agg #[.int .u64 0, .int .u64 0]) 2 16 Try.underlying90 hiK hzK hsK hbK rfl (by decide) _ _ _ rfl hl3 (some ⟨wr.heap.size + 1, 0, none⟩) 1 1 [.int .u64 p, .int .u64 r] rfl hr3 (by simp [Value.oneCell']) (by unfold maxLen; omega) (by omega) ?_; intro B9 cp9 w9 hl9 hg9 hat9; have s9' := s3.lis_put 0 rfl hl9 (by rw [HLN.out]; exact hg9) (by rw [HLN.out]; exact hat9); clear hl9 hg9 hat9)
      have s9 : St w None w9 [TkR B9 cp9 (ldl S (k + 1))] := by
        have h2 := s9'.take 1
        rw [HE.out, ← tkc_app, ← HN.out] at h2
        show St w None w9 [LisR 133 2 (.slice B9 (ldl S (k + 1)).length cp9) (ldl S (k + 1)).length (tkc (ldl S (k + 1)))]
        rw [ldl_len]
        exact h2
      go_roundw
      case rel => exact ⟨k + 1, B9, cp9, by omega, by go_num, rfl, s9⟩
      case measure => simp [intOf]; omega
    · obtain rfl : k = m := by omega
      go_wp2_with fail
      go_ret
      exact ⟨B, cp, rfl, sr⟩
theorem taken_c {l : List Tk} (rd : TkRd w A l) (ok : TkOK l) (hl : l.length ≤ 64) (s : Int) (h0 : 0 ≤ s) (h1 : s ≤ 1073741824) (r : Int) (hr : r = (tkn l s.toNat : Nat)) :
    Calls Try.prog 33 #[.slice A l.length cap, .int .u64 s] w fun e w' => e = .returned (.int .u64 r) ∧ Below w.heap.size w w' := by
  have HR := Lib.hid hr
  have RD := Lib.hid rd
  have OK := Lib.hid ok
  clear rd ok hr
  go_enter Try.func33, Try.ntmps33
  go_wp2_with fail
  go_loopw [5, 10] (fun nn i wr => ∃ (k : Nat) (x : Int), k ≤ l.length ∧ i = .int .i64 k ∧ nn = .int .u64 x ∧ x = (tkn (l.take k) s.toNat : Nat) ∧ Below w.heap.size w wr) (fun _ i _ => l.length - (intOf i).toNat)
  case atStart => exact ⟨0, 0, by omega, rfl, rfl, rfl, Below.refl _ _⟩
  case round =>
    obtain ⟨k, x, hk, rfl, rfl, hx, hbl⟩ := hrel
    by_cases hlt : k < l.length
    · obtain ⟨a, ha⟩ : ∃ a, l[k]? = some a := ⟨_, List.getElem?_eq_getElem hlt⟩
      obtain ⟨ib, off, rfl, e0, e1⟩ := RD.out.at_ hbl ha
      have hma : a ∈ l := List.mem_of_getElem? ha
      have oa := OK.out a hma
      have hu := upN_cast (s := s.toNat) (p := a.2) (by omega)
      rw [Int.toNat_of_nonneg h0] at hu
      have hm1 := upN_mul_le (s := s.toNat) (p := a.2) (c := a.1) (by omega) oa.2.1
      have hm2 : ((upN s.toNat a.2 * a.1 : Nat) : Int) = ((upN s.toNat a.2 : Nat) : Int) * (a.1 : Int) := Int.natCast_mul _ _
      have htk : tkn (l.take (k + 1)) s.toNat = tkn (l.take k) s.toNat + upN s.toNat a.2 * a.1 := by
        rw [List.take_add_one, ha, tkn_app]; simp [tkn]
      have hbd := tkn_bound (l.take (k + 1)) (fun b hb => OK.out b (List.mem_of_mem_take hb)) s.toNat
      have hln : (l.take (k + 1)).length ≤ 64 := by rw [List.length_take]; omega
      have hbd2 := Nat.mul_le_mul_right (s.toNat + 1073741824) hln
      have HT := Lib.hid htk
      obtain ⟨c, hc⟩ : ∃ c : Int, ((a.1 : Nat) : Int) = c := ⟨_, rfl⟩
      obtain ⟨p, hp⟩ : ∃ p : Int, ((a.2 : Nat) : Int) = p := ⟨_, rfl⟩
      obtain ⟨u, hu2⟩ : ∃ u : Int, ((upN s.toNat a.2 : Nat) : Int) = u := ⟨_, rfl⟩
      obtain ⟨y, hy⟩ : ∃ y : Int, u * c = y := ⟨_, rfl⟩
      rw [hc] at e0 hm2
      rw [hp] at e1 hu
      rw [hu2] at hu hm2
      rw [hy] at hm2
      have y0 : 0 ≤ y ∧ y ≤ 2147483648 := by omega
      have x0 : 0 ≤ x ∧ x + y ≤ 64 * 2147483648 := by
        rw [htk] at hbd
        omega
      have hp1 : 1 ≤ p := by omega
      have hw1 : IntKind.u64.wrap y = y := IntWalk.u64_in _ ⟨by omega, by omega⟩
      have hw2 : IntKind.u64.wrap (x + y) = x + y := IntWalk.u64_in _ ⟨by omega, by omega⟩
      have HS := Lib.hid (show x + y = (tkn (l.take (k + 1)) s.toNat : Nat) by rw [HT.out]; omega)
      have BL := Lib.hid hbl
      have UP := Lib.hid (fun W => up_any s p W h0 (by omega) hp1)
      rw [hu] at UP
      have bk := (Blk.new wr 133 #[.int .u64 c, .int .u64 p]).two
      obtain ⟨c0, c1⟩ := bk
      have BA := Lib.hid (hbl.alloc hbl.size (.cells #[.int .u64 c, .int .u64 p] 133))
      clear hx hbl hma oa hm1 hm2 htk hbd hbd2 hln hc hp hu2 hu ha hp1
      go_wp2_with fail
      go_quiet ((go_at_call 63; exact q_left (UP.out _)))
      go_wp2_with fail
      go_roundw
      case rel => exact ⟨k + 1, x + y, by omega, by go_num, rfl, HS.out, below_drewN BA.out _⟩
      case measure => simp [intOf]; omega
    · obtain rfl : k = l.length := by omega
      rw [List.take_length] at hx
      obtain rfl : x = r := by rw [HR.out, hx]
      clear hx
      go_wp2_with fail
      go_ret
      exact ⟨rfl, hbl⟩
end
end Go.Proofs.Ytdemhhmceiaohaa
